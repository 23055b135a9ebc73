/- Texts of one claim, merged: Base, Shelf, ShelfA, Lib, Words, NumM, Seq, ShelfB, Split, Number, ClParts, ClCmp, RowG, ClTree, ClName, CalD, CalT, DateM, ArtM, ArtKeep, ArtNum, ShelfU, CParse, ClHas, ClValid, CodeM, ClChildren, MapSB, ClLeaves, Texts. -/
import Derived.Test.YtdgckdmgplpobaaGreatDoorRows
import Derived.WalkKit
import Derived.WalkSpells
import Derived.WalkLawsBesides
import Derived.Lib.Hide
import Derived.Laws.OwnMore
import Derived.ArgAppend
import Derived.Deep.QuietTactic
import Derived.BigQuiet
import Derived.BigRegion
import Derived.Below
import Derived.Shelf.Strings.Builder1
import Derived.Shelf.Strings.Builder2
import Derived.Shelf.Strings.OnBuilder
import Derived.Shelf.Small.Strs
import Derived.Shelf.Small.Wraps
import Derived.Shelf.Strconv.Atoi
import Derived.Shelf.Strconv.Itoa0
import Derived.Shelf.Strconv.Itoa1
import Derived.Shelf.LaysM
import Derived.Shelf.Strconv.Itoa2
import Derived.Shelf.Strconv.Itoa3
import Derived.Shelf.Strconv.AtoiErrFast
import Derived.Shelf.Strconv.ParseIntEmpty
import Derived.Shelf.Strconv.AtoiFail
import Derived.Shelf.Strconv.Clone
import Derived.Shelf.Strconv.SyntaxError
import Derived.Shelf.LaysC
import Derived.Shelf.Strconv.ToError
import Derived.Shelf.Strconv.Lower
import Derived.Shelf.Strconv.ParseUint10
import Derived.Shelf.Strconv.ParseUint10Empty
import Derived.Shelf.Strconv.ParseUint10Any
import Derived.Shelf.Strconv.ParseInt10
import Derived.Shelf.Strconv.AtoiLong
import Derived.Shelf.Strconv.AtoiInnerAll
import Derived.Shelf.Strconv.RangeError
import Derived.Shelf.Strconv.ToErrorRange
import Derived.Shelf.Strconv.AtoiAll
import Derived.Shelf.Strconv.ErrVarAll
import Derived.Shelf.Strings.Search1
import Derived.Shelf.Strings.Search2
import Derived.Shelf.Strings.Search3
import Derived.Shelf.Strings.Count
import Derived.Shelf.Strings.Shaped
import Derived.Shelf.Strings.LastIndex
import Derived.Shelf.Strings.Prefix
import Derived.Shelf.Strings.Split
import Derived.Shelf.Strings.SplitShaped
import Derived.Shelf.Unicode.DecodeSlow
import Derived.Test.YtdgckdmgplpobaaGreatDoorProg
import Derived.Lib.Split
import Derived.Lib.AtoiAll
import Derived.Lib.IndexBytes
import Derived.Lib.AtoiTie
import Derived.RangeFuncBox
import Derived.RangeFuncLeaves
import Derived.RangeFuncCalls
import Derived.RangeFuncBound
import Derived.Shelf.Abstract
import Derived.OwnWalkIn
import Derived.TacticsInMore
import Derived.LoopNIn
import Derived.LoopIn
import Derived.Maps.AppendAt
import Derived.Lib.SliceRun
import Derived.Laws.RangeString
import Derived.Laws.RangeAny
import Derived.Deep.RegionHeld3
import Derived.Deep.DeepCutAuto
import Derived.IntWalk
import Derived.StillTailTactics
import Derived.Maps.OwnSet
import Derived.Maps.Views
/- Words and laws on memory that every layer uses: slices of int64s, rows of the call's own, ranges as a Bool; of no function of the program; no condition. -/
set_option linter.unusedSimpArgs false
set_option linter.unusedVariables false
namespace Go.Proofs.YtdgckdmgplpobaaGreatDoor
open Go.RowKit Go.Lib Go.Proofs

theorem ret_int {k : IntKind} {a b : Int} (h : a = b) : Ending.returned (.int k a) = .returned (.int k b) := by rw [h]

theorem strEq_true {a b : ByteArray} (h : a = b) : (a.toList == b.toList) = true := by rw [h, beq_self_eq_true]
theorem strEq_false {a b : ByteArray} (h : a ≠ b) : (a.toList == b.toList) = false := by
  rw [beq_eq_false_iff_ne, ByteArray.toList_eq, ByteArray.toList_eq]
  exact fun e => h (ByteArray.ext (Array.toList_inj.1 e))

def inB (n lo hi : Int) : Bool := decide (lo ≤ n ∧ n ≤ hi)

theorem inB_true {n lo hi : Int} : inB n lo hi = true ↔ lo ≤ n ∧ n ≤ hi := by unfold inB; simp

theorem inB_false {n lo hi : Int} : inB n lo hi = false ↔ ¬ (lo ≤ n ∧ n ≤ hi) := by unfold inB; exact decide_eq_false_iff_not

def cellsI (l : List Int) : List Value := l.map fun x => .int .i64 x

theorem cellsI_get (l : List Int) (i : Nat) (hi : i < l.length) : (cellsI l)[i]? = some (.int .i64 (l.getD i 0)) := by
  simp [cellsI, List.getD, List.getElem?_eq_getElem hi]

theorem ownsRow_below {w w' : World} {base : Nat} {e : TypeId} {size : Nat} {v : Value} {n : Nat} {xs : List Value} (h : w.ownsRow base e size v n xs) (hb : Below w.heap.size w w') : w'.ownsRow base e size v n xs := by
  obtain ⟨h1, h2⟩ := h
  refine ⟨h1, ?_⟩
  rcases h2 with h2 | ⟨g, cap, cur, hv, hg, hh, r⟩
  · exact Or.inl h2
  · have hlt : g < w.heap.size := by
      by_cases hlt : g < w.heap.size
      · exact hlt
      · rw [Array.getElem?_eq_none (by omega)] at hh; cases hh
    exact Or.inr ⟨g, cap, cur, hv, hg, by rw [hb.block g hlt]; exact hh, r⟩

def RowAt (w : World) (v : Value) (l : List Int) : Prop :=
  (l = [] ∧ ∃ ao cap, v = .slice ao 0 cap) ∨ ∃ b o cap, v = .slice (some ⟨b, o, none⟩) l.length cap ∧ b < w.heap.size ∧ ∀ i, i < l.length → w.cell? ⟨b, o + i, none⟩ = some (.int .i64 (l.getD i 0))

theorem RowAt.below {w w' : World} {v : Value} {l : List Int} (h : RowAt w v l) (hb : Below w.heap.size w w') : RowAt w' v l := by
  rcases h with h | ⟨b, o, cap, hv, hlt, hc⟩
  · exact Or.inl h
  · exact Or.inr ⟨b, o, cap, hv, Nat.lt_of_lt_of_le hlt hb.size, fun i hi => by rw [hb.cell (by exact hlt)]; exact hc i hi⟩

theorem RowAt.owns {w : World} {base : Nat} {e : TypeId} {v : Value} {n : Nat} {l : List Int} (h : w.ownsRow base e 1 v n (cellsI l)) : RowAt w v l := by
  have hl : l.length = n := by have := h.1; simpa [cellsI] using this
  rcases h.2 with ⟨hv, h0⟩ | ⟨g, cap, cur, hv, hg, hh, r⟩
  · exact Or.inl ⟨List.length_eq_zero_iff.1 (by omega), none, 0, by rw [hv]⟩
  · refine Or.inr ⟨g, 0, cap, by rw [hv, hl], ?_, fun i hi => ?_⟩
    · by_cases hlt : g < w.heap.size
      · exact hlt
      · rw [Array.getElem?_eq_none (by omega)] at hh; cases hh
    · subst hv
      rw [Nat.zero_add, h.cellAt i (by omega), cellsI_get l i hi]

theorem getD_eq {l : List Int} {i : Nat} (h : i < l.length) : l.getD i 0 = l[i] := by simp [List.getD, List.getElem?_eq_getElem h]

theorem ownsRow_mono {w : World} {base base' : Nat} {e : TypeId} {size : Nat} {v : Value} {n : Nat} {xs : List Value} (h : w.ownsRow base e size v n xs) (hb : base' ≤ base) : w.ownsRow base' e size v n xs := by
  obtain ⟨h1, h2⟩ := h
  refine ⟨h1, ?_⟩
  rcases h2 with h2 | ⟨g, cap, cur, hv, hg, r⟩
  · exact Or.inl h2
  · exact Or.inr ⟨g, cap, cur, hv, by omega, r⟩

theorem owns_shape {w : World} {base : Nat} {e : TypeId} {size : Nat} {v : Value} {n : Nat} {xs : List Value} (h : w.ownsRow base e size v n xs) (hn : 0 < n) : ∃ g cap, v = .slice (some ⟨g, 0, none⟩) n cap ∧ base ≤ g ∧ n ≤ cap := by
  rcases h.2 with ⟨_, h0⟩ | ⟨g, cap, cur, hv, hg, hh, hnc, _⟩
  · omega
  · exact ⟨g, cap, hv, hg, hnc⟩

theorem cellsI_snoc (l : List Int) (x : Int) : cellsI l ++ [.int .i64 x] = cellsI (l ++ [x]) := by simp [cellsI]

theorem ownBlock_le {w : World} {base : Nat} {e : TypeId} {size : Nat} {v : Value} {n : Nat} {xs : List Value} (h : w.ownsRow base e size v n xs) (r : Nat) (hr : v.ownBlock = some r) : base ≤ r := (h.lt r hr).1

theorem ownBlock_ne {w : World} {base : Nat} {e : TypeId} {size : Nat} {v : Value} {n : Nat} {xs : List Value} (h : w.ownsRow base e size v n xs) (r : Nat) (hr : r < base) : v.ownBlock = none ∨ v.ownBlock ≠ some r :=
  Or.inr fun he => by have := ownBlock_le h r he; omega

theorem one_new (w : World) (x : Value) (T : TypeId) (b : Nat) (hb : b = w.heap.size) : ∀ j u, [x][j]? = some u → (w.alloc (.cells #[x] T)).cell? ((⟨b, 0, none⟩ : Addr).add j) = some u := by
  subst hb
  intro j u hj
  match j, hj with
  | 0, hj => simp at hj; subst hj; simp [Addr.add]

theorem one_int (k : IntKind) (x : Int) : ∀ u ∈ [Value.int k x], u.oneCell' = true := by
  intro u hu; simp at hu; subst hu; rfl

theorem owns_gen {w : World} {base : Nat} {e : TypeId} {size : Nat} {v : Value} {n : Nat} {xs : List Value} (h : w.ownsRow base e size v n xs) : ∃ ao cap, v = .slice ao n cap ∧ n ≤ cap ∧ ((ao = none ∧ n = 0 ∧ cap = 0) ∨ ∃ g, ao = some ⟨g, 0, none⟩ ∧ base ≤ g) := by
  rcases h.2 with ⟨hv, h0⟩ | ⟨g, cap, cur, hv, hg, hh, hnc, _⟩
  · exact ⟨none, 0, by rw [hv, h0], by omega, Or.inl ⟨rfl, h0, rfl⟩⟩
  · exact ⟨some ⟨g, 0, none⟩, cap, hv, hnc, Or.inr ⟨g, rfl, hg⟩⟩

theorem RowAt.drewN {w : World} {v : Value} {l : List Int} (h : RowAt w v l) (q : Nat) : RowAt (w.drewN q) v l := h

theorem below_alloc (w : World) (o : Obj) : Below w.heap.size w (w.alloc o) := (Below.refl _ _).alloc (Nat.le_refl _) o

theorem below_drewN {B : Nat} {w w' : World} (h : Below B w w') (q : Nat) : Below B w (w'.drewN q) := ⟨h.os, h.tape, h.output, h.size, h.block⟩

end Go.Proofs.YtdgckdmgplpobaaGreatDoor

/- The contracts of Go's library that this seat's texts use, laid at its translation by the kit's commands; no condition beyond each contract's own. -/
namespace Go.Proofs
open Go.Shelf
def Tryz.laysM171_ren : Go.Shelf.Ren := ⟨fun | 171 => 41 | 243 => 59 | 246 => 86 | 283 => 105 | 284 => 106 | 285 => 107 | 286 => 108 | 129 => 125 | 317 => 124 | 318 => 126 | 319 => 127 | 320 => 128 | 337 => 136 | 338 => 137 | n => n, fun | 3 => 3 | 9 => 9 | 2 => 2 | 4 => 4 | 171 => 118 | 0 => 0 | 53 => 119 | 37 => 96 | 5 => 5 | 173 => 122 | 212 => 138 | 51 => 139 | 20 => 20 | 213 => 140 | 46 => 126 | 232 => 155 | 233 => 156 | n => n, fun | 17 => 3 | 18 => 6 | 19 => 7 | n => n⟩
theorem Tryz.laysM171 : Go.Proofs.LaysM.n171 Tryz.prog Tryz.laysM171_ren := {
  mixed := by kernel_rfl
  f129 := Tryz.func125.trans (congrArg some (by kernel_rfl))
  f171 := Tryz.func41.trans (congrArg some (by kernel_rfl))
  f243 := Tryz.func59.trans (congrArg some (by kernel_rfl))
  f246 := Tryz.func86.trans (congrArg some (by kernel_rfl))
  f283 := Tryz.func105.trans (congrArg some (by kernel_rfl))
  f284 := Tryz.func106.trans (congrArg some (by kernel_rfl))
  f285 := Tryz.func107.trans (congrArg some (by kernel_rfl))
  f286 := Tryz.func108.trans (congrArg some (by kernel_rfl))
  f317 := Tryz.func124.trans (congrArg some (by kernel_rfl))
  f318 := Tryz.func126.trans (congrArg some (by kernel_rfl))
  f319 := Tryz.func127.trans (congrArg some (by kernel_rfl))
  f320 := Tryz.func128.trans (congrArg some (by kernel_rfl))
  f337 := Tryz.func136.trans (congrArg some (by kernel_rfl))
  f338 := Tryz.func137.trans (congrArg some (by kernel_rfl))
  t0 := Tryz.underlying0
  a0 := Tryz.isAgg0
  z0 := Tryz.sizeOf0
  v0 := Tryz.zeroValue0
  t2 := Tryz.underlying2
  a2 := Tryz.isAgg2
  z2 := Tryz.sizeOf2
  v2 := Tryz.zeroValue2
  t3 := Tryz.underlying3
  a3 := Tryz.isAgg3
  z3 := Tryz.sizeOf3
  v3 := Tryz.zeroValue3
  t4 := Tryz.underlying4
  a4 := Tryz.isAgg4
  z4 := Tryz.sizeOf4
  v4 := Tryz.zeroValue4
  t5 := Tryz.underlying5
  a5 := Tryz.isAgg5
  z5 := Tryz.sizeOf5
  v5 := Tryz.zeroValue5
  t9 := Tryz.underlying9
  a9 := Tryz.isAgg9
  z9 := Tryz.sizeOf9
  v9 := Tryz.zeroValue9
  t20 := Tryz.underlying20
  a20 := Tryz.isAgg20
  z20 := Tryz.sizeOf20
  v20 := Tryz.zeroValue20
  t37 := Tryz.underlying96
  a37 := Tryz.isAgg96
  z37 := Tryz.sizeOf96
  v37 := Tryz.zeroValue96
  t46 := Tryz.underlying126
  a46 := Tryz.isAgg126
  z46 := Tryz.sizeOf126
  v46 := Tryz.zeroValue126
  t51 := Tryz.underlying139
  a51 := Tryz.isAgg139
  z51 := Tryz.sizeOf139
  v51 := Tryz.zeroValue139
  t53 := Tryz.underlying119
  a53 := Tryz.isAgg119
  z53 := Tryz.sizeOf119
  v53 := Tryz.zeroValue119
  t171 := Tryz.underlying118
  a171 := Tryz.isAgg118
  z171 := Tryz.sizeOf118
  v171 := Tryz.zeroValue118
  t173 := Tryz.underlying122
  a173 := Tryz.isAgg122
  z173 := Tryz.sizeOf122
  v173 := Tryz.zeroValue122
  t212 := Tryz.underlying138
  a212 := Tryz.isAgg138
  z212 := Tryz.sizeOf138
  v212 := Tryz.zeroValue138
  t213 := Tryz.underlying140
  a213 := Tryz.isAgg140
  z213 := Tryz.sizeOf140
  t232 := Tryz.underlying155
  a232 := Tryz.isAgg155
  z232 := Tryz.sizeOf155
  v232 := Tryz.zeroValue155
  t233 := Tryz.underlying156
  a233 := Tryz.isAgg156
  z233 := Tryz.sizeOf156
  v233 := Tryz.zeroValue156
  g17 := by kernel_rfl
  g18 := by kernel_rfl
  g19 := by kernel_rfl
  i0 := by kernel_rfl
  i2 := by kernel_rfl
  i3 := by kernel_rfl
  i4 := by kernel_rfl
  i5 := by kernel_rfl
  i9 := by kernel_rfl
  i20 := by kernel_rfl
  i37 := by kernel_rfl
  i46 := by kernel_rfl
  i51 := by kernel_rfl
  i53 := by kernel_rfl
  i171 := by kernel_rfl
  i173 := by kernel_rfl
  i212 := by kernel_rfl
  i232 := by kernel_rfl
  i233 := by kernel_rfl
  m17 := by kernel_rfl
  m18 := by kernel_rfl
  m19 := by kernel_rfl }
open Go.RowKit Go.Sort Go.Lib in
theorem Tryz.strconv_Itoa (n : Int) (h0 : -9223372036854775808 ≤ n) (h1 : n ≤ 9223372036854775807) (w : World) (htab : Lib.TabIs Tryz.prog w "internal/strconv.uint64pow10" .u64 Lib.pow10Tab) :
    Calls Tryz.prog 41 #[.int .i64 n] w fun e w' => e = .returned (.string ⟨(Lib.itoa n).toArray⟩) ∧ ∃ k os, w' = grow (w.drewN k) os := Any.strconv_Itoa Tryz.laysM171 n h0 h1 w htab
def Tryz.lays171_ren : Go.Shelf.Ren := ⟨fun | 171 => 41 | 243 => 59 | 246 => 86 | 283 => 105 | 284 => 106 | 285 => 107 | 286 => 108 | 129 => 125 | 317 => 124 | 318 => 126 | 319 => 127 | 320 => 128 | 337 => 136 | 338 => 137 | n => n, fun | 3 => 3 | 9 => 9 | 2 => 2 | 4 => 4 | 171 => 118 | 0 => 0 | 53 => 119 | 37 => 96 | 5 => 5 | 173 => 122 | 212 => 138 | 51 => 139 | 20 => 20 | 213 => 140 | 46 => 126 | 232 => 155 | 233 => 156 | n => n, fun | 17 => 3 | 18 => 6 | 19 => 7 | n => n⟩
theorem Tryz.lays171 : Go.Proofs.Lays.n171 Tryz.prog Tryz.lays171_ren := {
  mixed := by kernel_rfl
  f129 := Tryz.func125.trans (congrArg some (by kernel_rfl))
  f171 := Tryz.func41.trans (congrArg some (by kernel_rfl))
  f243 := Tryz.func59.trans (congrArg some (by kernel_rfl))
  f246 := Tryz.func86.trans (congrArg some (by kernel_rfl))
  f283 := Tryz.func105.trans (congrArg some (by kernel_rfl))
  f284 := Tryz.func106.trans (congrArg some (by kernel_rfl))
  f285 := Tryz.func107.trans (congrArg some (by kernel_rfl))
  f286 := Tryz.func108.trans (congrArg some (by kernel_rfl))
  f317 := Tryz.func124.trans (congrArg some (by kernel_rfl))
  f318 := Tryz.func126.trans (congrArg some (by kernel_rfl))
  f319 := Tryz.func127.trans (congrArg some (by kernel_rfl))
  f320 := Tryz.func128.trans (congrArg some (by kernel_rfl))
  f337 := Tryz.func136.trans (congrArg some (by kernel_rfl))
  f338 := Tryz.func137.trans (congrArg some (by kernel_rfl))
  t0 := Tryz.underlying0
  a0 := Tryz.isAgg0
  z0 := Tryz.sizeOf0
  v0 := Tryz.zeroValue0
  t2 := Tryz.underlying2
  a2 := Tryz.isAgg2
  z2 := Tryz.sizeOf2
  v2 := Tryz.zeroValue2
  t3 := Tryz.underlying3
  a3 := Tryz.isAgg3
  z3 := Tryz.sizeOf3
  v3 := Tryz.zeroValue3
  t4 := Tryz.underlying4
  a4 := Tryz.isAgg4
  z4 := Tryz.sizeOf4
  v4 := Tryz.zeroValue4
  t5 := Tryz.underlying5
  a5 := Tryz.isAgg5
  z5 := Tryz.sizeOf5
  v5 := Tryz.zeroValue5
  t9 := Tryz.underlying9
  a9 := Tryz.isAgg9
  z9 := Tryz.sizeOf9
  v9 := Tryz.zeroValue9
  t20 := Tryz.underlying20
  a20 := Tryz.isAgg20
  z20 := Tryz.sizeOf20
  v20 := Tryz.zeroValue20
  t37 := Tryz.underlying96
  a37 := Tryz.isAgg96
  z37 := Tryz.sizeOf96
  v37 := Tryz.zeroValue96
  t46 := Tryz.underlying126
  a46 := Tryz.isAgg126
  z46 := Tryz.sizeOf126
  v46 := Tryz.zeroValue126
  t51 := Tryz.underlying139
  a51 := Tryz.isAgg139
  z51 := Tryz.sizeOf139
  v51 := Tryz.zeroValue139
  t53 := Tryz.underlying119
  a53 := Tryz.isAgg119
  z53 := Tryz.sizeOf119
  v53 := Tryz.zeroValue119
  t171 := Tryz.underlying118
  a171 := Tryz.isAgg118
  z171 := Tryz.sizeOf118
  v171 := Tryz.zeroValue118
  t173 := Tryz.underlying122
  a173 := Tryz.isAgg122
  z173 := Tryz.sizeOf122
  v173 := Tryz.zeroValue122
  t212 := Tryz.underlying138
  a212 := Tryz.isAgg138
  z212 := Tryz.sizeOf138
  v212 := Tryz.zeroValue138
  t213 := Tryz.underlying140
  a213 := Tryz.isAgg140
  z213 := Tryz.sizeOf140
  t232 := Tryz.underlying155
  a232 := Tryz.isAgg155
  z232 := Tryz.sizeOf155
  v232 := Tryz.zeroValue155
  t233 := Tryz.underlying156
  a233 := Tryz.isAgg156
  z233 := Tryz.sizeOf156
  v233 := Tryz.zeroValue156
  g17 := by kernel_rfl
  g18 := by kernel_rfl
  g19 := by kernel_rfl }
open Go.RowKit Go.Sort Go.Lib in
theorem Tryz.strconv_Itoa_small (i : Nat) (hi : i < 100) (w : World) :
    Calls Tryz.prog 41 #[.int .i64 i] w fun e w' => e = .returned (.string ⟨(Lib.decDigits i).toArray⟩) ∧ w' = w := Any.strconv_Itoa_small Tryz.lays171 i hi w
end Go.Proofs

/- The contracts of Go's library that this seat's texts use, laid at its translation by the kit's commands; no condition beyond each contract's own. -/
namespace Go.Proofs
open Go.Shelf
def Tryz.laysC172_ren : Go.Shelf.Ren := ⟨fun | 172 => 50 | 244 => 65 | 245 => 66 | 247 => 88 | 279 => 89 | 280 => 90 | 281 => 91 | 282 => 92 | 287 => 109 | 316 => 110 | 171 => 41 | 205 => 111 | 321 => 129 | 322 => 130 | 243 => 59 | 246 => 86 | 283 => 105 | 284 => 106 | 285 => 107 | 286 => 108 | 129 => 125 | 317 => 124 | 318 => 126 | 319 => 127 | 320 => 128 | 337 => 136 | 338 => 137 | n => n, fun | 9 => 9 | 3 => 3 | 75 => 76 | 76 => 77 | 4 => 4 | 5 => 5 | 167 => 106 | 37 => 96 | 0 => 0 | 85 => 107 | 2 => 2 | 168 => 109 | 53 => 119 | 175 => 124 | 46 => 126 | 210 => 128 | 127 => 117 | 145 => 145 | 143 => 143 | 21 => 21 | 171 => 118 | 173 => 122 | 212 => 138 | 51 => 139 | 20 => 20 | 213 => 140 | 232 => 155 | 233 => 156 | 80 => 100 | n => n, fun | 15 => 1 | 16 => 2 | 17 => 3 | 18 => 6 | 19 => 7 | n => n⟩
theorem Tryz.laysC172 : Go.Proofs.LaysC.n172 Tryz.prog Tryz.laysC172_ren := {
  mixed := by kernel_rfl
  f129 := Tryz.func125.trans (congrArg some (by kernel_rfl))
  f171 := Tryz.func41.trans (congrArg some (by kernel_rfl))
  f172 := Tryz.func50.trans (congrArg some (by kernel_rfl))
  f205 := Tryz.func111.trans (congrArg some (by kernel_rfl))
  f243 := Tryz.func59.trans (congrArg some (by kernel_rfl))
  f244 := Tryz.func65.trans (congrArg some (by kernel_rfl))
  f245 := Tryz.func66.trans (congrArg some (by kernel_rfl))
  f246 := Tryz.func86.trans (congrArg some (by kernel_rfl))
  f247 := Tryz.func88.trans (congrArg some (by kernel_rfl))
  f279 := Tryz.func89.trans (congrArg some (by kernel_rfl))
  f280 := Tryz.func90.trans (congrArg some (by kernel_rfl))
  f281 := Tryz.func91.trans (congrArg some (by kernel_rfl))
  f282 := Tryz.func92.trans (congrArg some (by kernel_rfl))
  f283 := Tryz.func105.trans (congrArg some (by kernel_rfl))
  f284 := Tryz.func106.trans (congrArg some (by kernel_rfl))
  f285 := Tryz.func107.trans (congrArg some (by kernel_rfl))
  f286 := Tryz.func108.trans (congrArg some (by kernel_rfl))
  f287 := Tryz.func109.trans (congrArg some (by kernel_rfl))
  f316 := Tryz.func110.trans (congrArg some (by kernel_rfl))
  f317 := Tryz.func124.trans (congrArg some (by kernel_rfl))
  f318 := Tryz.func126.trans (congrArg some (by kernel_rfl))
  f319 := Tryz.func127.trans (congrArg some (by kernel_rfl))
  f320 := Tryz.func128.trans (congrArg some (by kernel_rfl))
  f321 := Tryz.func129.trans (congrArg some (by kernel_rfl))
  f322 := Tryz.func130.trans (congrArg some (by kernel_rfl))
  f337 := Tryz.func136.trans (congrArg some (by kernel_rfl))
  f338 := Tryz.func137.trans (congrArg some (by kernel_rfl))
  t0 := Tryz.underlying0
  a0 := Tryz.isAgg0
  z0 := Tryz.sizeOf0
  v0 := Tryz.zeroValue0
  t2 := Tryz.underlying2
  a2 := Tryz.isAgg2
  z2 := Tryz.sizeOf2
  v2 := Tryz.zeroValue2
  t3 := Tryz.underlying3
  a3 := Tryz.isAgg3
  z3 := Tryz.sizeOf3
  v3 := Tryz.zeroValue3
  t4 := Tryz.underlying4
  a4 := Tryz.isAgg4
  z4 := Tryz.sizeOf4
  v4 := Tryz.zeroValue4
  t5 := Tryz.underlying5
  a5 := Tryz.isAgg5
  z5 := Tryz.sizeOf5
  v5 := Tryz.zeroValue5
  t9 := Tryz.underlying9
  a9 := Tryz.isAgg9
  z9 := Tryz.sizeOf9
  v9 := Tryz.zeroValue9
  t20 := Tryz.underlying20
  a20 := Tryz.isAgg20
  z20 := Tryz.sizeOf20
  v20 := Tryz.zeroValue20
  t21 := Tryz.underlying21
  a21 := Tryz.isAgg21
  z21 := Tryz.sizeOf21
  v21 := Tryz.zeroValue21
  t37 := Tryz.underlying96
  a37 := Tryz.isAgg96
  z37 := Tryz.sizeOf96
  v37 := Tryz.zeroValue96
  t46 := Tryz.underlying126
  a46 := Tryz.isAgg126
  z46 := Tryz.sizeOf126
  v46 := Tryz.zeroValue126
  t51 := Tryz.underlying139
  a51 := Tryz.isAgg139
  z51 := Tryz.sizeOf139
  v51 := Tryz.zeroValue139
  t53 := Tryz.underlying119
  a53 := Tryz.isAgg119
  z53 := Tryz.sizeOf119
  v53 := Tryz.zeroValue119
  t75 := Tryz.underlying76
  a75 := Tryz.isAgg76
  z75 := Tryz.sizeOf76
  v75 := Tryz.zeroValue76
  t76 := Tryz.underlying77
  a76 := Tryz.isAgg77
  z76 := Tryz.sizeOf77
  v76 := Tryz.zeroValue77
  t85 := Tryz.underlying107
  a85 := Tryz.isAgg107
  z85 := Tryz.sizeOf107
  v85 := Tryz.zeroValue107
  t127 := Tryz.underlying117
  a127 := Tryz.isAgg117
  z127 := Tryz.sizeOf117
  v127 := Tryz.zeroValue117
  t143 := Tryz.underlying143
  a143 := Tryz.isAgg143
  z143 := Tryz.sizeOf143
  v143 := Tryz.zeroValue143
  t145 := Tryz.underlying145
  a145 := Tryz.isAgg145
  z145 := Tryz.sizeOf145
  v145 := Tryz.zeroValue145
  t167 := Tryz.underlying106
  a167 := Tryz.isAgg106
  z167 := Tryz.sizeOf106
  v167 := Tryz.zeroValue106
  t168 := Tryz.underlying109
  a168 := Tryz.isAgg109
  z168 := Tryz.sizeOf109
  v168 := Tryz.zeroValue109
  t171 := Tryz.underlying118
  a171 := Tryz.isAgg118
  z171 := Tryz.sizeOf118
  v171 := Tryz.zeroValue118
  t173 := Tryz.underlying122
  a173 := Tryz.isAgg122
  z173 := Tryz.sizeOf122
  v173 := Tryz.zeroValue122
  t175 := Tryz.underlying124
  a175 := Tryz.isAgg124
  z175 := Tryz.sizeOf124
  v175 := Tryz.zeroValue124
  t210 := Tryz.underlying128
  a210 := Tryz.isAgg128
  z210 := Tryz.sizeOf128
  v210 := Tryz.zeroValue128
  t212 := Tryz.underlying138
  a212 := Tryz.isAgg138
  z212 := Tryz.sizeOf138
  v212 := Tryz.zeroValue138
  t213 := Tryz.underlying140
  a213 := Tryz.isAgg140
  z213 := Tryz.sizeOf140
  t232 := Tryz.underlying155
  a232 := Tryz.isAgg155
  z232 := Tryz.sizeOf155
  v232 := Tryz.zeroValue155
  t233 := Tryz.underlying156
  a233 := Tryz.isAgg156
  z233 := Tryz.sizeOf156
  v233 := Tryz.zeroValue156
  g15 := by kernel_rfl
  g16 := by kernel_rfl
  g17 := by kernel_rfl
  g18 := by kernel_rfl
  g19 := by kernel_rfl
  t80 := Tryz.underlying100
  a80 := Tryz.isAgg100
  z80 := Tryz.sizeOf100
  v80 := Tryz.zeroValue100
  i0 := by kernel_rfl
  i2 := by kernel_rfl
  i3 := by kernel_rfl
  i4 := by kernel_rfl
  i5 := by kernel_rfl
  i9 := by kernel_rfl
  i20 := by kernel_rfl
  i21 := by kernel_rfl
  i37 := by kernel_rfl
  i46 := by kernel_rfl
  i51 := by kernel_rfl
  i53 := by kernel_rfl
  i75 := by kernel_rfl
  i76 := by kernel_rfl
  i80 := by kernel_rfl
  i85 := by kernel_rfl
  i127 := by kernel_rfl
  i143 := by kernel_rfl
  i145 := by kernel_rfl
  i167 := by kernel_rfl
  i168 := by kernel_rfl
  i171 := by kernel_rfl
  i173 := by kernel_rfl
  i175 := by kernel_rfl
  i210 := by kernel_rfl
  i212 := by kernel_rfl
  i232 := by kernel_rfl
  i233 := by kernel_rfl
  m15 := by kernel_rfl
  m16 := by kernel_rfl
  m17 := by kernel_rfl
  m18 := by kernel_rfl
  m19 := by kernel_rfl
  c0 := by kernel_rfl
  c2 := by kernel_rfl
  c3 := by kernel_rfl
  c4 := by kernel_rfl
  c5 := by kernel_rfl
  c9 := by kernel_rfl
  c20 := by kernel_rfl
  c21 := by kernel_rfl
  c37 := by kernel_rfl
  c46 := by kernel_rfl
  c51 := by kernel_rfl
  c53 := by kernel_rfl
  c75 := by kernel_rfl
  c76 := by kernel_rfl
  c80 := by kernel_rfl
  c85 := by kernel_rfl
  c127 := by kernel_rfl
  c143 := by kernel_rfl
  c145 := by kernel_rfl
  c167 := by kernel_rfl
  c168 := by kernel_rfl
  c171 := by kernel_rfl
  c173 := by kernel_rfl
  c175 := by kernel_rfl
  c210 := by kernel_rfl
  c212 := by kernel_rfl
  c213 := by kernel_rfl
  c232 := by kernel_rfl
  c233 := by kernel_rfl }
open Go.RowKit in
theorem Tryz.strconv_Atoi_ok (s : ByteArray) (hmax : s.size ≤ 9223372036854775806) (v : Int) (h : Lib.atoiAll s.data.toList = .ok v) (w : World) :
    Calls Tryz.prog 50 #[.string s] w fun e w' => e = .returned (.tuple #[.int .i64 v, .nilIface]) ∧ (w' = w ∨ ∃ t, w' = Lib.bytesWorld w 5 t) := Any.strconv_Atoi_ok Tryz.laysC172 s hmax v h w
open Go.RowKit in
theorem Tryz.strconv_Atoi_syntax_var (s : ByteArray) (hlim : s.size ≤ 281474976710656) (h1 : ∀ v, Lib.atoiAll s.data.toList ≠ .ok v) (h2 : Lib.atoiAll s.data.toList ≠ .range) (tp : TypeId) (p : Value) (w : World) (hvar : w.var? Tryz.prog "strconv.ErrSyntax" = some #[.iface tp p]) :
    Calls Tryz.prog 50 #[.string s] w fun e w' => ∃ N, e = .returned (.tuple #[.int .i64 0, .iface 109 (.pointer (some ⟨N, 0, none⟩))]) ∧ w.heap.size ≤ N ∧ w'.heap[N]? = some (.cells #[.string ⟨#[65, 116, 111, 105]⟩, .string s, .iface tp p] 128 (0, 0)) ∧ Below w.heap.size w w' := Any.strconv_Atoi_syntax_var Tryz.laysC172 s hlim (by cases hh : Lib.atoiAll s.data.toList <;> first | rfl | exact absurd hh (h1 _) | exact absurd hh h2) tp p w hvar
open Go.RowKit in
theorem Tryz.strconv_Atoi_range_var (s : ByteArray) (hlim : s.size ≤ 281474976710656) (h : Lib.atoiAll s.data.toList = .range) (tp : TypeId) (p : Value) (w : World) (hvar : w.var? Tryz.prog "strconv.ErrRange" = some #[.iface tp p]) :
    Calls Tryz.prog 50 #[.string s] w fun e w' => ∃ N, e = .returned (.tuple #[.int .i64 (Lib.atoiSat s.data.toList), .iface 109 (.pointer (some ⟨N, 0, none⟩))]) ∧ w.heap.size ≤ N ∧ w'.heap[N]? = some (.cells #[.string ⟨#[65, 116, 111, 105]⟩, .string s, .iface tp p] 128 (0, 0)) ∧ Below w.heap.size w w' := Any.strconv_Atoi_range_var Tryz.laysC172 s hlim h tp p w hvar
end Go.Proofs

/- What Go's library serves to every layer: the digits of a number, strconv.Itoa and strconv.Atoi by their contracts, and the variables that they read as the program's text lays them; no condition beyond each contract's own. -/
namespace Go.Proofs.YtdgckdmgplpobaaGreatDoor
open Go.RowKit Go.Lib Go.Proofs

def decB (n : Nat) : ByteArray := ⟨(decDigits n).toArray⟩

theorem dec_one (n : Nat) (h : n < 10) : decDigits n = [UInt8.ofNat (48 + n)] := by rw [decDigits, dif_pos h]
theorem dec_two (n : Nat) (h : 10 ≤ n) (h1 : n < 100) : decDigits n = [UInt8.ofNat (48 + n / 10), UInt8.ofNat (48 + n % 10)] := by
  rw [decDigits, dif_neg (by omega), dec_one _ (by omega)]
  rfl

theorem decB_size (n : Nat) (h : n < 1000) : (decB n).size ≤ 3 := by
  have e : (decB n).size = (decDigits n).length := by unfold decB; simp [ByteArray.size]
  rw [e]
  by_cases h1 : n < 10
  · rw [dec_one n h1]; simp
  · by_cases h2 : n < 100
    · rw [dec_two n (by omega) h2]; simp
    · rw [decDigits, dif_neg (by omega), dec_two _ (by omega) (by omega)]; simp
theorem itoa_small (n : Nat) (w : World) (h : n < 100) : Calls Tryz.prog 41 #[.int .i64 (n : Int)] w fun e w' => e = .returned (.string (decB n)) ∧ w = w' :=
  (Tryz.strconv_Itoa_small n h w).mono fun _ _ ⟨h1, h2⟩ => ⟨h1, h2.symm⟩

def ItoaAt (w : World) (y : Nat) : Prop := ∀ W, Below w.heap.size w W → Calls Tryz.prog 41 #[.int .i64 (y : Int)] W fun e w' => e = .returned (.string (decB y)) ∧ Below W.heap.size W w'

theorem grow_below (W : World) (k : Nat) (os : Array Obj) : Below W.heap.size W (Sort.grow (W.drewN k) os) :=
  ⟨rfl, rfl, rfl, by simp [Sort.grow, World.drewN], fun j hj => Sort.heap_grow_old (W.drewN k) os hj⟩

theorem var_below {P : Program} {w w' : World} {name : String} {cs : Array Value} (h : w.var? P name = some cs) (hb : ∀ g, P.globalNamed name = some g → w'.heap[g]? = w.heap[g]?) : w'.var? P name = some cs := by
  unfold World.var? at h ⊢
  cases hg : P.globalNamed name with
  | none => rw [hg] at h; cases h
  | some g =>
    rw [hg] at h
    simp only [Option.bind_some] at h ⊢
    rw [hb g hg]
    exact h

theorem var_lt {P : Program} {w : World} {name : String} {cs : Array Value} (h : w.var? P name = some cs) {g : Nat} (hg : P.globalNamed name = some g) : g < w.heap.size := by
  unfold World.var? at h
  rw [hg] at h
  simp only [Option.bind_some] at h
  by_cases hlt : g < w.heap.size
  · exact hlt
  · rw [Array.getElem?_eq_none (by omega)] at h; cases h

theorem itoaAt_tab (w : World) (y : Nat) (h : y < 1000) (ht : TabIs Tryz.prog w "internal/strconv.uint64pow10" .u64 pow10Tab) : ItoaAt w y := fun W hb => by
  have ht' : TabIs Tryz.prog W "internal/strconv.uint64pow10" .u64 pow10Tab := var_below ht fun g hg => hb.block g (var_lt ht hg)
  refine (Tryz.strconv_Itoa (y : Int) (by omega) (by omega) W ht').mono fun e w' ⟨h1, k, os, h2⟩ => ⟨?_, by rw [h2]; exact grow_below W k _⟩
  rw [h1]
  have : itoa (y : Int) = decDigits y := by unfold itoa; rw [if_neg (by omega)]; simp
  rw [this]; rfl


theorem dec_three (n : Nat) (h : 100 ≤ n) (h1 : n < 1000) : decDigits n = [UInt8.ofNat (48 + n / 100), UInt8.ofNat (48 + n / 10 % 10), UInt8.ofNat (48 + n % 10)] := by
  rw [decDigits, dif_neg (by omega), dec_two _ (by omega) (by omega), show n / 10 / 10 = n / 100 by omega]
  rfl

theorem dec_cases (n : Nat) (h : n < 1000) : decDigits n = if n < 10 then [UInt8.ofNat (48 + n)] else if n < 100 then [UInt8.ofNat (48 + n / 10), UInt8.ofNat (48 + n % 10)] else [UInt8.ofNat (48 + n / 100), UInt8.ofNat (48 + n / 10 % 10), UInt8.ofNat (48 + n % 10)] := by
  split
  · exact dec_one n (by omega)
  · split
    · exact dec_two n (by omega) (by omega)
    · exact dec_three n (by omega) h

def digitB (c : UInt8) : Bool := decide (48 ≤ c.toNat ∧ c.toNat ≤ 57)

theorem ofNat_toNat (n : Nat) (h : n < 10) : (UInt8.ofNat (48 + n)).toNat = 48 + n := by
  rw [UInt8.toNat_ofNat']
  omega
theorem digit_ofNat (n : Nat) (h : n < 10) : digitB (UInt8.ofNat (48 + n)) = true := by
  unfold digitB
  rw [ofNat_toNat n h, decide_eq_true_eq]
  omega
theorem dec_digits (n : Nat) (h : n < 1000) : ∀ c ∈ decDigits n, digitB c = true := by
  rw [dec_cases n h]
  intro c hc
  split at hc
  · simp only [List.mem_cons, List.mem_nil_iff, or_false] at hc; subst hc; exact digit_ofNat _ (by omega)
  · split at hc
    · simp only [List.mem_cons, List.mem_nil_iff, or_false] at hc; rcases hc with rfl | rfl <;> exact digit_ofNat _ (by omega)
    · simp only [List.mem_cons, List.mem_nil_iff, or_false] at hc; rcases hc with rfl | rfl | rfl <;> exact digit_ofNat _ (by omega)

theorem atoi_one (p : Nat) (h : p < 10) : atoiAll [UInt8.ofNat (48 + p)] = .ok (p : Int) := by
  have : ∀ p : Fin 10, atoiAll [UInt8.ofNat (48 + p.val)] = .ok (p.val : Int) := by decide
  exact this ⟨p, h⟩
theorem atoi_two (p q : Nat) (h : p < 10) (hq : q < 10) : atoiAll [UInt8.ofNat (48 + p), UInt8.ofNat (48 + q)] = .ok ((10 * p + q : Nat) : Int) := by
  have : ∀ p q : Fin 10, atoiAll [UInt8.ofNat (48 + p.val), UInt8.ofNat (48 + q.val)] = .ok ((10 * p.val + q.val : Nat) : Int) := by decide +kernel
  exact this ⟨p, h⟩ ⟨q, hq⟩
theorem atoi_three (p q r : Nat) (h : p < 10) (hq : q < 10) (hr : r < 10) : atoiAll [UInt8.ofNat (48 + p), UInt8.ofNat (48 + q), UInt8.ofNat (48 + r)] = .ok ((100 * p + 10 * q + r : Nat) : Int) := by
  have : ∀ p q r : Fin 10, atoiAll [UInt8.ofNat (48 + p.val), UInt8.ofNat (48 + q.val), UInt8.ofNat (48 + r.val)] = .ok ((100 * p.val + 10 * q.val + r.val : Nat) : Int) := by decide +kernel
  exact this ⟨p, h⟩ ⟨q, hq⟩ ⟨r, hr⟩

theorem atoi_dec (n : Nat) (h : n < 1000) : atoiAll (decDigits n) = .ok (n : Int) := by
  rw [dec_cases n h]
  split
  · exact atoi_one n (by omega)
  · split
    · rw [atoi_two _ _ (by omega) (by omega)]; congr 2; omega
    · rw [atoi_three _ _ _ (by omega) (by omega) (by omega)]; congr 2; omega

structure Lay (w : World) : Prop where
  pow : TabIs Tryz.prog w "internal/strconv.uint64pow10" .u64 pow10Tab
  syn : ∃ tp p, w.var? Tryz.prog "strconv.ErrSyntax" = some #[.iface tp p]
  ran : ∃ tp p, w.var? Tryz.prog "strconv.ErrRange" = some #[.iface tp p]
  max : ∃ m, w.cell? ⟨0, 0, none⟩ = some (.int .i64 m)

theorem cell_lt {w : World} {b o : Nat} {v : Value} (h : w.cell? ⟨b, o, none⟩ = some v) : b < w.heap.size := by
  by_cases hlt : b < w.heap.size
  · exact hlt
  · rw [World.cell?, show w.heap[b]? = none from Array.getElem?_eq_none (by omega)] at h
    cases h

def layBlocks : List Nat := [3, 1, 2, 0]

theorem Lay.keep {w w' : World} (h : Lay w) (hk : ∀ g ∈ layBlocks, w'.heap[g]? = w.heap[g]?) : Lay w' := by
  have g0 : Tryz.prog.globalNamed "internal/strconv.uint64pow10" = some 3 := by kernel_rfl
  have g1 : Tryz.prog.globalNamed "strconv.ErrSyntax" = some 1 := by kernel_rfl
  have g2 : Tryz.prog.globalNamed "strconv.ErrRange" = some 2 := by kernel_rfl
  obtain ⟨h1, ⟨t2, p2, h2⟩, ⟨t3, p3, h3⟩, ⟨m, h4⟩⟩ := h
  refine ⟨var_below h1 fun g hg => ?_, ⟨t2, p2, var_below h2 fun g hg => ?_⟩, ⟨t3, p3, var_below h3 fun g hg => ?_⟩, m, ?_⟩
  · obtain rfl := Option.some.inj (g0.symm.trans hg); exact hk _ (by simp [layBlocks])
  · obtain rfl := Option.some.inj (g1.symm.trans hg); exact hk _ (by simp [layBlocks])
  · obtain rfl := Option.some.inj (g2.symm.trans hg); exact hk _ (by simp [layBlocks])
  · rw [World.cell?_of_block (w := w) (hk _ (by simp [layBlocks]))]; exact h4

theorem Lay.lt {w : World} (h : Lay w) : ∀ g ∈ layBlocks, g < w.heap.size := by
  have g0 : Tryz.prog.globalNamed "internal/strconv.uint64pow10" = some 3 := by kernel_rfl
  have g1 : Tryz.prog.globalNamed "strconv.ErrSyntax" = some 1 := by kernel_rfl
  have g2 : Tryz.prog.globalNamed "strconv.ErrRange" = some 2 := by kernel_rfl
  obtain ⟨h1, ⟨t2, p2, h2⟩, ⟨t3, p3, h3⟩, ⟨m, h4⟩⟩ := h
  intro g hg
  simp only [layBlocks, List.mem_cons, List.mem_nil_iff, or_false] at hg
  rcases hg with rfl | rfl | rfl | rfl
  · exact var_lt h1 g0
  · exact var_lt h2 g1
  · exact var_lt h3 g2
  · exact cell_lt h4

theorem Lay.below {w w' : World} {B : Nat} (h : Lay w) (hb : Below B w w') (hB : w.heap.size ≤ B) : Lay w' := h.keep fun g hg => hb.block g (by have := h.lt g hg; omega)

theorem atoi_ok (s : ByteArray) (v : Int) (w : World) (hs : s.size ≤ 1000000) (h : atoiAll s.data.toList = .ok v) :
    Calls Tryz.prog 50 #[.string s] w fun e w' => e = .returned (.tuple #[.int .i64 v, .nilIface]) ∧ Below w.heap.size w w' :=
  (Tryz.strconv_Atoi_ok s (by omega) v h w).mono fun e w' ⟨h1, h2⟩ => ⟨h1, by
    rcases h2 with rfl | ⟨t, rfl⟩
    · exact Below.refl _ _
    · exact bytesWorld_below _ _ _⟩

def AtoiBad (w : World) (e : Ending) (w' : World) : Prop := ∃ (v : Int) (T : TypeId) (N : Nat), e = .returned (.tuple #[.int .i64 v, .iface T (.pointer (some ⟨N, 0, none⟩))]) ∧ Below w.heap.size w w'

theorem atoi_bad (s : ByteArray) (w : World) (hL : Lay w) (hs : s.size ≤ 1000000) (h : ∀ v, atoiAll s.data.toList ≠ .ok v) : Calls Tryz.prog 50 #[.string s] w (AtoiBad w) := by
  by_cases h2 : atoiAll s.data.toList = .range
  · obtain ⟨tp, p, hp⟩ := hL.ran
    exact (Tryz.strconv_Atoi_range_var s (by omega) h2 tp p w hp).mono fun e w' ⟨N, h1, _, _, h4⟩ => ⟨_, _, N, h1, h4⟩
  · obtain ⟨tp, p, hp⟩ := hL.syn
    exact (Tryz.strconv_Atoi_syntax_var s (by omega) h h2 tp p w hp).mono fun e w' ⟨N, h1, _, _, h4⟩ => ⟨_, _, N, h1, h4⟩

theorem Lay.itoa {w : World} (h : Lay w) (d : Nat) (hd : d ≤ 36000) : ItoaAt w (d / 360) := itoaAt_tab w _ (by omega) h.pow

end Go.Proofs.YtdgckdmgplpobaaGreatDoor

/- Plain mathematics of cutting a text at a byte: its words, the index of a byte, the rest behind it; of no program; no condition. -/
namespace Go.Proofs.YtdgckdmgplpobaaGreatDoor
open Go.RowKit Go.Lib Go.Proofs

def wordsL (c : UInt8) : List UInt8 → List (List UInt8)
  | [] => [[]]
  | x :: l => if x = c then [] :: wordsL c l else match wordsL c l with
    | [] => [[x]]
    | h :: t => (x :: h) :: t

theorem wordsL_ne (c : UInt8) (l : List UInt8) : wordsL c l ≠ [] := by
  cases l with
  | nil => simp [wordsL]
  | cons x l =>
    unfold wordsL
    split
    · simp
    · split <;> simp

theorem indexByte_cases (l : List UInt8) (c : UInt8) : (indexByte l c = -1 ∧ c ∉ l) ∨ ∃ i : Nat, indexByte l c = i ∧ i < l.length ∧ c ∉ l.take i ∧ l.drop i = c :: l.drop (i + 1) := by
  induction l with
  | nil => exact Or.inl ⟨rfl, by simp⟩
  | cons b l ih =>
    unfold indexByte
    by_cases hb : b = c
    · subst hb
      refine Or.inr ⟨0, by simp, by simp, by simp, by simp⟩
    · have hbeq : (b == c) = false := by simpa using hb
      rw [hbeq]
      rcases ih with ⟨h1, h2⟩ | ⟨i, h1, h2, h3, h4⟩
      · refine Or.inl ⟨by rw [h1]; rfl, ?_⟩
        simp only [List.mem_cons, not_or]
        exact ⟨fun e => hb e.symm, h2⟩
      · refine Or.inr ⟨i + 1, ?_, by simp; omega, ?_, by simpa using h4⟩
        · rw [h1]
          have : ((i : Int) == -1) = false := by rw [beq_eq_false_iff_ne]; omega
          rw [this]
          simp
        · simp only [List.take_succ_cons, List.mem_cons, not_or]
          exact ⟨fun e => hb e.symm, h3⟩

theorem wordsL_no {c : UInt8} {l : List UInt8} (h : c ∉ l) : wordsL c l = [l] := by
  induction l with
  | nil => rfl
  | cons x l ih =>
    simp only [List.mem_cons, not_or] at h
    unfold wordsL
    rw [if_neg (fun e => h.1 e.symm), ih h.2]

theorem wordsL_app {c : UInt8} {a r : List UInt8} (h : c ∉ a) : wordsL c (a ++ c :: r) = a :: wordsL c r := by
  induction a with
  | nil => simp [wordsL]
  | cons x a ih =>
    simp only [List.mem_cons, not_or] at h
    rw [List.cons_append, wordsL, if_neg (fun e => h.1 e.symm), ih h.2]

theorem wordsL_hit {c : UInt8} {l : List UInt8} {i : Nat} (h3 : c ∉ l.take i) (h4 : l.drop i = c :: l.drop (i + 1)) : wordsL c l = l.take i :: wordsL c (l.drop (i + 1)) := by
  have : l = l.take i ++ c :: l.drop (i + 1) := by rw [← h4, List.take_append_drop]
  rw [show wordsL c l = wordsL c (l.take i ++ c :: l.drop (i + 1)) by rw [← this], wordsL_app h3]

def joinL (c : UInt8) : List (List UInt8) → List UInt8
  | [] => []
  | [a] => a
  | a :: b :: t => a ++ c :: joinL c (b :: t)

theorem joinL_words (c : UInt8) (l : List UInt8) : joinL c (wordsL c l) = l := by
  induction l with
  | nil => rfl
  | cons x l ih =>
    unfold wordsL
    have hne := wordsL_ne c l
    split
    · rename_i hx
      subst hx
      cases hw : wordsL x l with
      | nil => exact absurd hw hne
      | cons a t => rw [hw] at ih; rw [joinL, ih]; rfl
    · cases hw : wordsL c l with
      | nil => exact absurd hw hne
      | cons a t =>
        rw [hw] at ih
        cases t with
        | nil => simp only [joinL] at ih ⊢; rw [ih]
        | cons b t => simp only [joinL] at ih ⊢; rw [← ih]; rfl

theorem words_join (c : UInt8) : ∀ (ws : List (List UInt8)), ws ≠ [] → (∀ w ∈ ws, c ∉ w) → wordsL c (joinL c ws) = ws
  | [], h, _ => absurd rfl h
  | [a], _, h => wordsL_no (h a (by simp))
  | a :: b :: t, _, h => by
    rw [joinL, wordsL_app (h a (by simp)), words_join c (b :: t) (by simp) (fun w hw => h w (List.mem_cons_of_mem _ hw))]

theorem wordsL_len (c : UInt8) (l : List UInt8) : ∀ w ∈ wordsL c l, w.length ≤ l.length := by
  induction l with
  | nil => intro w hw; simp [wordsL] at hw; subst hw; simp
  | cons x l ih =>
    unfold wordsL
    split
    · intro w hw
      rcases List.mem_cons.1 hw with rfl | hw
      · simp
      · have := ih w hw; simp; omega
    · split
      · intro w hw; simp at hw; subst hw; simp
      · rename_i h t he
        intro w hw
        rcases List.mem_cons.1 hw with rfl | hw
        · have := ih h (by rw [he]; simp); simp; omega
        · have := ih w (by rw [he]; simp [hw]); simp; omega

def txt (l : List UInt8) : ByteArray := ⟨l.toArray⟩
theorem txt_list (l : List UInt8) : (txt l).data.toList = l := by simp [txt]
theorem txt_back (s : ByteArray) : txt s.data.toList = s := by cases s; simp [txt]
theorem txt_size (l : List UInt8) : (txt l).size = l.length := by simp [txt, ByteArray.size]
theorem size_list (s : ByteArray) : s.size = s.data.toList.length := by rw [Array.length_toList]; rfl
theorem bytes_ext {a b : ByteArray} (h : a.data.toList = b.data.toList) : a = b := by rw [← txt_back a, ← txt_back b, h]

theorem extract_list (s : ByteArray) (a b : Nat) : (s.extract a b).data.toList = (s.data.toList.drop a).take (b - a) := by
  rw [ByteArray.data_extract, Array.toList_extract, List.extract_eq_take_drop]
theorem extract_front (s : ByteArray) (b : Nat) : s.extract 0 b = txt (s.data.toList.take b) := bytes_ext (by rw [extract_list, txt_list]; simp)
theorem extract_back (s : ByteArray) (a : Nat) : s.extract a s.size = txt (s.data.toList.drop a) := bytes_ext (by
  rw [extract_list, txt_list, size_list, List.take_of_length_le (by simp)])

def wordsB (c : UInt8) (s : ByteArray) : List ByteArray := (wordsL c s.data.toList).map txt

end Go.Proofs.YtdgckdmgplpobaaGreatDoor

/- Plain mathematics of decimal numerals of up to 15 digits: what Itoa writes Atoi reads back, and nothing else is written so; and of cutting a text at its first blanks; of no function of the program; no condition. -/
namespace Go.Proofs.YtdgckdmgplpobaaGreatDoor
open Go.RowKit Go.Lib Go.Proofs

theorem digit_val {c : UInt8} (h : digitB c = true) : digitVal c = some (c.toNat - 48) := by
  unfold digitB at h
  unfold digitVal
  rw [if_pos (of_decide_eq_true h)]

theorem decFrom_app (b : UInt8) (d : Nat) (hd : digitVal b = some d) : ∀ (l : List UInt8) (acc n : Nat), decFrom acc l = some n → decFrom acc (l ++ [b]) = some (n * 10 + d)
  | [], acc, n, h => by
    simp only [decFrom, Option.some.injEq] at h
    subst h
    simp [decFrom, hd]
  | a :: l, acc, n, h => by
    rw [List.cons_append]
    unfold decFrom at h ⊢
    cases ha : digitVal a with
    | none => rw [ha] at h; cases h
    | some e =>
      rw [ha] at h
      exact decFrom_app b d hd l _ n h

theorem decDigits_step (u : Nat) (h : ¬ u < 10) : decDigits u = decDigits (u / 10) ++ [UInt8.ofNat (48 + u % 10)] := by rw [decDigits, dif_neg h]

theorem digits_all : ∀ (u : Nat), ∀ c ∈ decDigits u, digitB c = true := by
  intro u
  induction u using Nat.strongRecOn with
  | ind u ih =>
    intro c hc
    by_cases h : u < 10
    · rw [dec_one u h] at hc
      rw [List.mem_singleton.1 hc]
      exact digit_ofNat _ h
    · rw [decDigits_step u h] at hc
      rcases List.mem_append.1 hc with hc | hc
      · exact ih (u / 10) (by omega) c hc
      · rw [List.mem_singleton.1 hc]
        exact digit_ofNat _ (by omega)

theorem digits_ne (u : Nat) : decDigits u ≠ [] := by
  by_cases h : u < 10
  · rw [dec_one u h]; simp
  · rw [decDigits_step u h]; simp

theorem val_ofNat (d : Nat) (h : d < 10) : digitVal (UInt8.ofNat (48 + d)) = some d := by
  rw [digit_val (digit_ofNat d h), ofNat_toNat d h]
  congr 1
  omega

theorem decFrom_digits : ∀ (u : Nat), decFrom 0 (decDigits u) = some u := by
  intro u
  induction u using Nat.strongRecOn with
  | ind u ih =>
    by_cases h : u < 10
    · rw [dec_one u h]
      unfold decFrom
      rw [val_ofNat u h]
      simp [decFrom]
    · rw [decDigits_step u h, decFrom_app _ (u % 10) (val_ofNat _ (by omega)) _ _ _ (ih (u / 10) (by omega))]
      congr 1
      omega

theorem atoi_digits (u : Nat) : atoi (decDigits u) = some (u : Int) := by
  have hn := digits_ne u
  have hv := decFrom_digits u
  have ha := digits_all u
  cases hd : decDigits u with
  | nil => exact absurd hd hn
  | cons b r =>
    rw [hd] at hv ha
    have hb := ha b (by simp)
    unfold digitB at hb
    have hb' := of_decide_eq_true hb
    have h45 : (b == 45) = false := by rw [beq_eq_false_iff_ne]; intro e; subst e; revert hb'; decide
    have h43 : (b == 43) = false := by rw [beq_eq_false_iff_ne]; intro e; subst e; revert hb'; decide
    show (if (b == 45) = true then (decNat r).map fun (m : Nat) => -(m : Int) else if (b == 43) = true then (decNat r).map fun (m : Nat) => (m : Int) else (decNat (b :: r)).map fun (m : Nat) => (m : Int)) = some (u : Int)
    rw [h45, h43, if_neg (by decide), if_neg (by decide)]
    unfold decNat
    rw [if_neg (by simp), hv]
    rfl

theorem nDigits_le : ∀ (k u : Nat), u < 10 ^ (k + 1) → nDigits u ≤ k + 1
  | 0, u, h => by rw [nDigits_small (by simpa using h)]; omega
  | k + 1, u, h => by
    by_cases h1 : u < 10
    · rw [nDigits_small h1]; omega
    · rw [nDigits_big h1]
      have := nDigits_le k (u / 10) (by rw [Nat.pow_succ] at h; omega)
      omega

theorem digits_len {u : Nat} (h : u < 1000000000000000) : (decDigits u).length ≤ 15 := by
  rw [decDigits_length]
  exact nDigits_le 14 u (by simpa using h)

theorem len_digits {u : Nat} (h : (decDigits u).length ≤ 15) : u < 1000000000000000 := by
  rw [decDigits_length] at h
  have h1 := lt_pow_nDigits u
  have h2 : 10 ^ nDigits u ≤ 10 ^ 15 := Nat.pow_le_pow_right (by decide) h
  have h3 : (10 : Nat) ^ 15 = 1000000000000000 := by decide
  omega

theorem atoi_all {u : Nat} (h : u < 1000000000000000) : atoiAll (decDigits u) = .ok (u : Int) := by
  rw [atoiAll_short _ (by have := digits_len h; omega), atoi_digits]
  rfl

theorem digits_inj {a b : Nat} (h : decDigits a = decDigits b) : a = b := by
  have h1 := decFrom_digits a
  rw [h, decFrom_digits b] at h1
  injection h1 with h1
  exact h1.symm

def itoaT (n : Int) : ByteArray := txt (itoa n)
theorem itoa_nat (u : Nat) : itoa (u : Int) = decDigits u := by unfold itoa; rw [if_neg (by omega)]; simp
theorem itoaT_nat (u : Nat) : (itoaT (u : Int)).data.toList = decDigits u := by unfold itoaT; rw [txt_list, itoa_nat]

open Classical in
noncomputable def numT (w : ByteArray) : Option Nat := if h : ∃ u, u < 1000000000000000 ∧ decDigits u = w.data.toList then some (Classical.choose h) else none

theorem numT_some {w : ByteArray} {u : Nat} : numT w = some u ↔ u < 1000000000000000 ∧ decDigits u = w.data.toList := by
  unfold numT
  constructor
  · intro h
    split at h
    · rename_i hx
      injection h with h
      rw [← h]
      exact Classical.choose_spec hx
    · cases h
  · intro h
    have hx : ∃ u, u < 1000000000000000 ∧ decDigits u = w.data.toList := ⟨u, h⟩
    rw [dif_pos hx]
    congr 1
    exact digits_inj ((Classical.choose_spec hx).2.trans h.2.symm)
theorem numT_none {w : ByteArray} : numT w = none ↔ ∀ u, u < 1000000000000000 → decDigits u ≠ w.data.toList := by
  constructor
  · intro h u hu e
    rw [numT_some.2 ⟨hu, e⟩] at h
    cases h
  · intro h
    cases hn : numT w with
    | none => rfl
    | some u => exact absurd (numT_some.1 hn).2 (h u (numT_some.1 hn).1)

theorem numT_itoa {u : Nat} (h : u < 1000000000000000) : numT (itoaT (u : Int)) = some u := numT_some.2 ⟨h, (itoaT_nat u).symm⟩
theorem itoa_numT {w : ByteArray} {u : Nat} (h : numT w = some u) : itoaT (u : Int) = w := bytes_ext (by rw [itoaT_nat]; exact (numT_some.1 h).2)

theorem itoa_blank (u : Nat) : (32 : UInt8) ∉ (itoaT (u : Int)).data.toList := fun hm => by
  rw [itoaT_nat] at hm
  have := digits_all u 32 hm
  revert this
  decide

/-! Cutting at blanks. -/

def cutK (k : Nat) (l : List UInt8) : List (List UInt8) := splitK [32] 0 k l

theorem index_at {l r : List UInt8} (h : (32 : UInt8) ∉ l) : indexByte (l ++ 32 :: r) 32 = l.length := by
  rcases indexByte_cases (l ++ 32 :: r) 32 with ⟨_, h2⟩ | ⟨i, h1, h2, h3, h4⟩
  · exact absurd (by simp) h2
  · rw [h1]
    have e : (l ++ 32 :: r) = (l ++ 32 :: r).take i ++ 32 :: (l ++ 32 :: r).drop (i + 1) := by rw [← h4, List.take_append_drop]
    have w1 := wordsL_app (c := 32) (r := r) h
    have w2 := wordsL_app (c := 32) (r := (l ++ 32 :: r).drop (i + 1)) h3
    rw [← e, w1] at w2
    injection w2 with w3 _
    have := congrArg List.length w3
    rw [List.length_take, Nat.min_eq_left (by omega)] at this
    omega
theorem index_no {l : List UInt8} (h : (32 : UInt8) ∉ l) : indexByte l 32 = -1 := by
  rcases indexByte_cases l 32 with ⟨h1, _⟩ | ⟨i, _, h2, _, h4⟩
  · exact h1
  · exact absurd (List.mem_of_mem_drop (by rw [h4]; simp)) h

theorem cutK_hit {a r : List UInt8} (k : Nat) (h : (32 : UInt8) ∉ a) : cutK (k + 1) (a ++ 32 :: r) = a :: cutK k r := by
  unfold cutK
  have e1 : index (a ++ 32 :: r) [32] = a.length := by rw [index_one, index_at h]
  have n1 : ((a.length : Int) == -1) = false := by rw [beq_eq_false_iff_ne]; omega
  rw [splitK, e1, n1, if_neg (by simp)]
  simp
theorem cutK_zero (l : List UInt8) : cutK 0 l = [l] := rfl
theorem cutK_no {l : List UInt8} (k : Nat) (h : (32 : UInt8) ∉ l) : cutK k l = [l] := by
  cases k with
  | zero => rfl
  | succ k =>
    unfold cutK
    have e1 : index l [32] = -1 := by rw [index_one, index_no h]
    rw [splitK, e1, if_pos (by decide)]

theorem join_cut : ∀ (k : Nat) (l : List UInt8), joinL 32 (cutK k l) = l
  | 0, l => rfl
  | k + 1, l => by
    by_cases h : (32 : UInt8) ∈ l
    · rcases indexByte_cases l 32 with ⟨_, h2⟩ | ⟨i, h1, h2, h3, h4⟩
      · exact absurd h h2
      · have e : l = l.take i ++ 32 :: l.drop (i + 1) := by rw [← h4, List.take_append_drop]
        rw [e, cutK_hit k h3]
        have ih := join_cut k (l.drop (i + 1))
        cases hc : cutK k (l.drop (i + 1)) with
        | nil =>
          exfalso
          cases k with
          | zero => simp [cutK, splitK] at hc
          | succ k => unfold cutK splitK at hc; split at hc <;> cases hc
        | cons b t => rw [hc] at ih; rw [joinL, ih]
    · rw [cutK_no _ h]; rfl

theorem cut_join : ∀ (ws : List (List UInt8)) (x : List UInt8), (∀ w ∈ ws, (32 : UInt8) ∉ w) → cutK ws.length (joinL 32 (ws ++ [x])) = ws ++ [x]
  | [], x, _ => rfl
  | w :: ws, x, h => by
    have ih := cut_join ws x fun v hv => h v (List.mem_cons_of_mem _ hv)
    cases hc : ws ++ [x] with
    | nil => simp at hc
    | cons b t =>
      rw [List.cons_append, hc, joinL, List.length_cons, cutK_hit _ (h w (by simp)), ← hc, ih]

end Go.Proofs.YtdgckdmgplpobaaGreatDoor

/- The statement 'for x := range seq' where the iterator keeps its place in a cell of its own (strings.SplitSeq, strings.Lines): what such an iterator promises, and what a loop over it then does; of no function of the program; no condition. -/
namespace Go.Proofs.YtdgckdmgplpobaaGreatDoor
open Go.RowKit Go.Lib Go.Proofs

def SeqCell {α : Type} (P : Program) (g : Nat) (lb : Array Value) (enc : α → Value) (b : Nat) (Kp : World → World → Prop) (xs : List α) (w : World) : Prop :=
  ∀ (l : Nat) (J Jx : List α → World → Prop) (W : World), Below w.heap.size w W →
    (∀ pre A B, J pre A → A.grownBy B (some b) → J pre B) →
    (∀ pre x A, (pre ++ [x]) <+: xs → J pre A → YieldAt Fence.wide 0 P l #[enc x] A fun e B => (e = .returned (.bool true) ∧ J (pre ++ [x]) B ∧ Kp A B) ∨ (e = .returned (.bool false) ∧ Jx (pre ++ [x]) B)) →
    J [] W →
    CallsIn Fence.wide 0 P g (#[.func (.yield l) #[] #[]] ++ lb) W fun e B => (∃ v, e = .returned v) ∧ (J xs B ∨ ∃ pre, pre <+: xs ∧ Jx pre B)

def roundEnd {α : Type} (Kp : World → World → Prop) (I : List α → World → Prop) (Ix : Code → List α → World → Prop) (xs : List α) (A : World) : Exit → Act → World → Prop
  | .normal, _, B => KeepsOthers A B ∧ Kp A B ∧ I xs B
  | .ret, _, B => KeepsOthers A B ∧ Ix .ret xs B
  | .exit id, _, B => KeepsOthers A B ∧ Ix (.exit id) xs B
  | .goto t, _, B => KeepsOthers A B ∧ Ix (.goto t) xs B
  | _, _, _ => False

theorem stays {A B : World} {b k : Nat} {o : Obj} (hg : A.grownBy B (some b)) (h : A.heap[k]? = some o) (hne : k ≠ b) : B.heap[k]? = some o :=
  (hg.block k (Array.getElem?_eq_some_iff.1 h).1 (by simpa using hne)).trans h

theorem range_cell {α : Type} {P : Program} {g : Operand} {ps : Array Tmp} {assign body : Code} {Q : Exit → Act → World → Prop} {a : Act} {w : World}
    {gf : Nat} {lb : Array Value} (hg : a.eval g = .func (.func gf) #[] lb) (eg : ∀ args w, (callFunc gf args).run P w = .ok (.enter gf args) w)
    {enc : α → Value} {b : Nat} {Kp : World → World → Prop} {xs : List α} (hseq : SeqCell P gf lb enc b Kp xs w) (hb : b < w.heap.size)
    (hKt : ∀ {A B C : World}, Kp A B → Kp B C → Kp A C) (hKb : ∀ (A : World) (l : Nat) (o o' : Obj), w.heap.size ≤ l → A.heap[l]? = some o → o.isCells = false → Kp A (A.putObj l o')) (hps : ps.size = 1)
    (I : List α → World → Prop) (Ix : Code → List α → World → Prop) (hI : OwnFrom w.heap.size I) (hIx : ∀ c, OwnFrom w.heap.size (Ix c)) (hIb : ∀ pre A B, I pre A → A.grownBy B (some b) → I pre B) (h0 : I [] w) (a₁ : α → Act)
    (hassign : ∀ (l : Nat) (x : α) (A : World) (K : Act → World → Prop), K (a₁ x) A →
      assign.wpIn (Fence.wide.inRound l) 0 P (Exit.then K (fun _ _ _ => False)) { tmps := (ps.zip #[enc x]).foldl (fun t (p, v) => t.setIfInBounds p v) a.tmps, defers := [] } A)
    (hbody : ∀ (l : Nat) (pre : List α) (x : α) (A : World), (pre ++ [x]) <+: xs → I pre A → body.wpIn (Fence.wide.inRound l) 0 P (roundEnd Kp I Ix (pre ++ [x]) A) (a₁ x) A)
    (hdone : ∀ (D : Nat) (A : World), w.heap.size ≤ D → I xs A → A.heap[D]? = some (.deferred (some [])) → Q .normal { a with defers := { target := .collected D, args := #[] } :: a.defers } A)
    (hstop : ∀ (D : Nat) (c : Code) (pre : List α) (A : World), w.heap.size ≤ D → pre <+: xs → Ix c pre A → A.heap[D]? = some (.deferred (some [])) → c.wpIn Fence.wide 0 P Q { a with defers := { target := .collected D, args := #[] } :: a.defers } A) :
    (Code.rangeFunc g ps assign body).wpIn Fence.wide 0 P Q a w := by
  refine wpIn_rangeFunc fun fn hfn => ?_
  -- the loop's record, and the two blocks of book-keeping: D for the rounds' deferred calls, D + 1 for the record
  obtain ⟨rec, hrec⟩ : ∃ rec : LoopState → Option Code → Loop, rec = fun st pe => { state := st, pending := pe, fn, tmps := a.tmps, params := ps, assign, body, defers := w.heap.size } := ⟨_, rfl⟩
  obtain ⟨D, hD⟩ : ∃ D, D = w.heap.size := ⟨_, rfl⟩
  let Two : Option Code → LoopState → World → Prop := fun pe st A => A.heap[D + 1]? = some (.loop (rec st pe)) ∧ A.heap[D]? = some (.deferred (some []))
  have two_put : ∀ {A : World} {pe pe' : Option Code} {st st' : LoopState}, Two pe st A → Two pe' st' (A.putObj (D + 1) (.loop (rec st' pe'))) := fun h =>
    ⟨World.putObj_heap_same (Array.getElem?_eq_some_iff.1 h.1).1, (World.putObj_heap_other (by omega)).trans h.2⟩
  have two_keep : ∀ {A B : World} {pe : Option Code} {st : LoopState}, Two pe st A → KeepsOthers A B → Two pe st B := fun h k => ⟨k.same _ _ h.1 rfl, k.same _ _ h.2 rfl⟩
  have two_step : ∀ {A B : World} {pe : Option Code} {st : LoopState}, Two pe st A → A.grownBy B (some b) → Two pe st B := fun h k => ⟨stays k h.1 (by omega), stays k h.2 (by omega)⟩
  have hbusy : (LoopState.ready : LoopState) ≠ .busy := by decide
  have hdone' : (LoopState.done : LoopState) ≠ .busy := by decide
  obtain ⟨W1, hW1⟩ : ∃ W1, (w.alloc (.deferred (some []))).alloc (.loop (rec .ready none)) = W1 := ⟨_, rfl⟩
  have hT : Two none .ready W1 := by
    subst hW1
    refine ⟨?_, ?_⟩
    · have := World.alloc_heap_new (w.alloc (.deferred (some []))) (.loop (rec .ready none))
      rw [World.size_alloc] at this
      rw [hD]; exact this
    · rw [hD, Below.heap_alloc _ _ _ (by simp)]; exact World.alloc_heap_new w _
  have hI1 : I [] W1 := by subst hW1; exact hI.alloc _ (hI.alloc _ h0)
  have hb1 : Below w.heap.size w W1 := by subst hW1; exact ((Below.refl _ w).alloc (Nat.le_refl _) _).alloc (by simp) _
  refine ⟨w.heap.size + 1, [{ target := .collected w.heap.size, args := #[] }], W1, { target := .fn (.func gf) lb, args := #[.func (.yield (w.heap.size + 1)) #[] #[]] }, W1, gf,
    #[.func (.yield (w.heap.size + 1)) #[] #[]] ++ lb, W1, ?_, ?_, fun f' _ => trivial, ?_, fun h => by simp [Fence.wide] at h, ?_⟩
  · show (Instr.enterLoop fn a.tmps ps assign body none).run P w = _
    rw [← hW1, hrec]; exact run_enterLoop_outer _ _ _ _ _
  · simp only [resolve, hg]
    simp [go_sem]
  · simp [invoke, go_sem, eg]
  rw [← hD]
  refine (hseq (D + 1) (fun pre A => I pre A ∧ Two none .ready A) (fun pre A => ∃ c, Ix c pre A ∧ Two (some c) .done A) W1 hb1
    (fun pre A B h k => ⟨hIb pre A B h.1 k, two_step h.2 k⟩) ?_ ⟨hI1, hT⟩).mono ?_
  · rintro pre x A hpre ⟨hi, ht⟩
    have hy := run_yield (P := P) (args := #[enc x]) ht.1 (by rw [hrec]; exact hps.symm)
    refine ⟨_, _, _, _, hy, roundIn_of_wpIn trivial ?_⟩
    have ha := hassign (D + 1) x A
    rw [hrec]
    refine ha _ ⟨_, run_beginRound ht.1 (by rw [hrec]), ?_⟩
    have e1 : ({ rec .ready none with state := LoopState.busy } : Loop) = rec .busy none := by rw [hrec]
    rw [e1]
    have hi2 := hI.putObj (.loop (rec .busy none)) hi (by omega) ht.1 rfl
    have ht2 : Two none .busy (A.putObj (D + 1) (.loop (rec .busy none))) := two_put ht
    have hk2 := hKb A (D + 1) _ (.loop (rec .busy none)) (by omega) ht.1 rfl
    have last : ∀ (jump : Option Code) (B : World), Two none .busy B →
        (Instr.endRound (D + 1) jump).run P B = .ok (.bool jump.isNone) (B.putObj (D + 1) (.loop (rec (if jump.isNone then .ready else .done) jump))) := fun jump B h => by
      have := run_endRound (P := P) jump h.1
      rw [this, hrec]
    refine wpIn_mono (hbody (D + 1) pre x _ hpre hi2) ?_
    rintro e a3 B hp
    cases e with
    | normal =>
      obtain ⟨k3, kp3, i3⟩ := hp
      have ht3 := two_keep ht2 k3
      exact ⟨_, _, last none B ht3, .inl ⟨rfl, ⟨hI.putObj _ i3 (by omega) ht3.1 rfl, two_put ht3⟩, hKt (hKt hk2 kp3) (hKb _ _ _ _ (by omega) ht3.1 rfl)⟩⟩
    | ret =>
      obtain ⟨k3, i3⟩ := hp
      have ht3 := two_keep ht2 k3
      exact ⟨_, _, last (some .ret) B ht3, .inr ⟨rfl, .ret, (hIx _).putObj _ i3 (by omega) ht3.1 rfl, two_put ht3⟩⟩
    | exit id =>
      obtain ⟨k3, i3⟩ := hp
      have ht3 := two_keep ht2 k3
      exact ⟨_, _, last (some (.exit id)) B ht3, .inr ⟨rfl, .exit id, (hIx _).putObj _ i3 (by omega) ht3.1 rfl, two_put ht3⟩⟩
    | goto t =>
      obtain ⟨k3, i3⟩ := hp
      have ht3 := two_keep ht2 k3
      exact ⟨_, _, last (some (.goto t)) B ht3, .inr ⟨rfl, .goto t, (hIx _).putObj _ i3 (by omega) ht3.1 rfl, two_put ht3⟩⟩
    | panic ch => exact hp.elim
    | outgrown => exact hp.elim
  · rintro e B ⟨⟨v, rfl⟩, ⟨hi, ht⟩ | ⟨pre, hpre, c, hi, ht⟩⟩
    · refine ⟨none, _, (by have := run_endLoop (P := P) ht.1 (by rw [hrec]; exact hbusy); rw [this, hrec]), ?_⟩
      exact hdone D _ (by omega) (hI.putObj _ hi (by omega) ht.1 rfl) ((World.putObj_heap_other (by omega)).trans ht.2)
    · refine ⟨some c, _, (by have := run_endLoop (P := P) ht.1 (by rw [hrec]; exact hdone'); rw [this, hrec]), ?_⟩
      exact hstop D c pre _ (by omega) hpre ((hIx c).putObj _ hi (by omega) ht.1 rfl) ((World.putObj_heap_other (by omega)).trans ht.2)

def KeepsThree (b0 b1 b2 : Nat) (A B : World) : Prop := B.heap[b0]? = A.heap[b0]? ∧ B.heap[b1]? = A.heap[b1]? ∧ B.heap[b2]? = A.heap[b2]?

theorem keepsThree_t {b0 b1 b2 : Nat} {A B C : World} (h : KeepsThree b0 b1 b2 A B) (k : KeepsThree b0 b1 b2 B C) : KeepsThree b0 b1 b2 A C := ⟨k.1.trans h.1, k.2.1.trans h.2.1, k.2.2.trans h.2.2⟩
theorem keepsThree_b {b0 b1 b2 : Nat} {w : World} (h0 : b0 < w.heap.size) (h1 : b1 < w.heap.size) (h2 : b2 < w.heap.size) (A : World) (l : Nat) (o o' : Obj) (hl : w.heap.size ≤ l) (_ : A.heap[l]? = some o) (_ : o.isCells = false) : KeepsThree b0 b1 b2 A (A.putObj l o') :=
  ⟨World.putObj_heap_other (by omega), World.putObj_heap_other (by omega), World.putObj_heap_other (by omega)⟩
end Go.Proofs.YtdgckdmgplpobaaGreatDoor

/- The contracts of Go's library that this seat's texts use, laid at its translation by the kit's commands; no condition beyond each contract's own. -/
namespace Go.Proofs
open Go.Shelf
def Tryz.lays106_ren : Go.Shelf.Ren := ⟨fun | 106 => 45 | 213 => 64 | 265 => 87 | n => n, fun | 9 => 9 | 3 => 3 | n => n, fun | n => n⟩
theorem Tryz.lays106 : Go.Proofs.Lays.n106 Tryz.prog Tryz.lays106_ren := {
  mixed := by kernel_rfl
  f106 := Tryz.func45.trans (congrArg some (by kernel_rfl))
  f213 := Tryz.func64.trans (congrArg some (by kernel_rfl))
  f265 := Tryz.func87.trans (congrArg some (by kernel_rfl))
  t3 := Tryz.underlying3
  a3 := Tryz.isAgg3
  z3 := Tryz.sizeOf3
  v3 := Tryz.zeroValue3
  t9 := Tryz.underlying9
  a9 := Tryz.isAgg9
  z9 := Tryz.sizeOf9
  v9 := Tryz.zeroValue9 }
open Go.RowKit in
theorem Tryz.strings_Compare (a b : ByteArray) (w : World) :
    Calls Tryz.prog 45 #[.string a, .string b] w fun e w' => e = .returned (.int .i64 (Lib.compareBytes a.data.toList b.data.toList)) ∧ w' = w := Any.strings_Compare Tryz.lays106 a b w
def Tryz.lays122_ren : Go.Shelf.Ren := ⟨fun | 122 => 44 | 215 => 63 | n => n, fun | 3 => 3 | 4 => 4 | n => n, fun | n => n⟩
theorem Tryz.lays122 : Go.Proofs.Lays.n122 Tryz.prog Tryz.lays122_ren := {
  mixed := by kernel_rfl
  f122 := Tryz.func44.trans (congrArg some (by kernel_rfl))
  f215 := Tryz.func63.trans (congrArg some (by kernel_rfl))
  t3 := Tryz.underlying3
  a3 := Tryz.isAgg3
  z3 := Tryz.sizeOf3
  v3 := Tryz.zeroValue3
  t4 := Tryz.underlying4
  a4 := Tryz.isAgg4
  z4 := Tryz.sizeOf4
  v4 := Tryz.zeroValue4 }
open Go.RowKit in
theorem Tryz.cmp_Compare_int (x y : Int) (w : World) :
    Calls Tryz.prog 44 #[.int .i64 x, .int .i64 y] w fun e w' => e = .returned (.int .i64 (Lib.compareInt x y)) ∧ w' = w := Any.cmp_Compare_int Tryz.lays122 x y w
def Tryz.lays143_ren : Go.Shelf.Ren := ⟨fun | 143 => 80 | 219 => 101 | 217 => 116 | 225 => 117 | 224 => 118 | 267 => 119 | 266 => 131 | 314 => 132 | n => n, fun | 9 => 9 | 3 => 3 | 4 => 4 | 5 => 5 | 46 => 126 | 146 => 150 | 51 => 139 | n => n, fun | 1 => 0 | n => n⟩
theorem Tryz.lays143 : Go.Proofs.Lays.n143 Tryz.prog Tryz.lays143_ren := {
  mixed := by kernel_rfl
  f143 := Tryz.func80.trans (congrArg some (by kernel_rfl))
  f217 := Tryz.func116.trans (congrArg some (by kernel_rfl))
  f219 := Tryz.func101.trans (congrArg some (by kernel_rfl))
  f224 := Tryz.func118.trans (congrArg some (by kernel_rfl))
  f225 := Tryz.func117.trans (congrArg some (by kernel_rfl))
  f266 := Tryz.func131.trans (congrArg some (by kernel_rfl))
  f267 := Tryz.func119.trans (congrArg some (by kernel_rfl))
  f314 := Tryz.func132.trans (congrArg some (by kernel_rfl))
  t3 := Tryz.underlying3
  a3 := Tryz.isAgg3
  z3 := Tryz.sizeOf3
  v3 := Tryz.zeroValue3
  t4 := Tryz.underlying4
  a4 := Tryz.isAgg4
  z4 := Tryz.sizeOf4
  v4 := Tryz.zeroValue4
  t5 := Tryz.underlying5
  a5 := Tryz.isAgg5
  z5 := Tryz.sizeOf5
  v5 := Tryz.zeroValue5
  t9 := Tryz.underlying9
  a9 := Tryz.isAgg9
  z9 := Tryz.sizeOf9
  v9 := Tryz.zeroValue9
  t46 := Tryz.underlying126
  a46 := Tryz.isAgg126
  z46 := Tryz.sizeOf126
  v46 := Tryz.zeroValue126
  t51 := Tryz.underlying139
  a51 := Tryz.isAgg139
  z51 := Tryz.sizeOf139
  v51 := Tryz.zeroValue139
  t146 := Tryz.underlying150
  a146 := Tryz.isAgg150
  z146 := Tryz.sizeOf150
  v146 := Tryz.zeroValue150
  g1 := by kernel_rfl }
open Go.RowKit Go.Lib in
theorem Tryz.strings_Index_one (s : ByteArray) (c : UInt8) (w : World) :
    Calls Tryz.prog 80 #[.string s, .string ⟨#[c]⟩] w fun e w' => e = .returned (.int .i64 (Lib.indexByte s.data.toList c)) ∧ w' = w := Any.strings_Index_one Tryz.lays143 s c w
def Tryz.lays148_ren : Go.Shelf.Ren := ⟨fun | 148 => 149 | 222 => 152 | 223 => 153 | 269 => 155 | n => n, fun | 9 => 9 | 3 => 3 | 4 => 4 | 5 => 5 | 146 => 150 | 51 => 139 | 46 => 126 | n => n, fun | n => n⟩
theorem Tryz.lays148 : Go.Proofs.Lays.n148 Tryz.prog Tryz.lays148_ren := {
  mixed := by kernel_rfl
  f148 := Tryz.func149.trans (congrArg some (by kernel_rfl))
  f222 := Tryz.func152.trans (congrArg some (by kernel_rfl))
  f223 := Tryz.func153.trans (congrArg some (by kernel_rfl))
  f269 := Tryz.func155.trans (congrArg some (by kernel_rfl))
  t3 := Tryz.underlying3
  a3 := Tryz.isAgg3
  z3 := Tryz.sizeOf3
  v3 := Tryz.zeroValue3
  t4 := Tryz.underlying4
  a4 := Tryz.isAgg4
  z4 := Tryz.sizeOf4
  v4 := Tryz.zeroValue4
  t5 := Tryz.underlying5
  a5 := Tryz.isAgg5
  z5 := Tryz.sizeOf5
  v5 := Tryz.zeroValue5
  t9 := Tryz.underlying9
  a9 := Tryz.isAgg9
  z9 := Tryz.sizeOf9
  v9 := Tryz.zeroValue9
  t46 := Tryz.underlying126
  a46 := Tryz.isAgg126
  z46 := Tryz.sizeOf126
  v46 := Tryz.zeroValue126
  t51 := Tryz.underlying139
  a51 := Tryz.isAgg139
  z51 := Tryz.sizeOf139
  v51 := Tryz.zeroValue139
  t146 := Tryz.underlying150
  a146 := Tryz.isAgg150
  z146 := Tryz.sizeOf150
  v146 := Tryz.zeroValue150 }
open Go.RowKit Go.Lib in
theorem Tryz.strings_LastIndex_one (s sub : ByteArray) (h1 : sub.size = 1) (hs : s.size < 4611686018427387904) (w : World) :
    Calls Tryz.prog 149 #[.string s, .string sub] w fun e w' => e = .returned (.int .i64 (Lib.lastIndexByte s ((sub[0]'(by omega)).toNat : Int))) ∧ w' = w := Any.strings_LastIndex_one Tryz.lays148 s sub h1 hs w
def Tryz.lays99_ren : Go.Shelf.Ren := ⟨fun | 99 => 142 | 206 => 147 | n => n, fun | 9 => 9 | 4 => 4 | 3 => 3 | n => n, fun | n => n⟩
theorem Tryz.lays99 : Go.Proofs.Lays.n99 Tryz.prog Tryz.lays99_ren := {
  mixed := by kernel_rfl
  f99 := Tryz.func142.trans (congrArg some (by kernel_rfl))
  f206 := Tryz.func147.trans (congrArg some (by kernel_rfl))
  t3 := Tryz.underlying3
  a3 := Tryz.isAgg3
  z3 := Tryz.sizeOf3
  v3 := Tryz.zeroValue3
  t4 := Tryz.underlying4
  a4 := Tryz.isAgg4
  z4 := Tryz.sizeOf4
  v4 := Tryz.zeroValue4
  t9 := Tryz.underlying9
  a9 := Tryz.isAgg9
  z9 := Tryz.sizeOf9
  v9 := Tryz.zeroValue9 }
open Go.RowKit Go.Lib in
theorem Tryz.strings_HasPrefix (s p : ByteArray) (w : World) :
    Calls Tryz.prog 142 #[.string s, .string p] w fun e w' => e = .returned (.bool (Lib.hasPrefix s.data.toList p.data.toList)) ∧ w' = w := Any.strings_HasPrefix Tryz.lays99 s p w
def Tryz.lays100_ren : Go.Shelf.Ren := ⟨fun | 100 => 143 | 207 => 148 | n => n, fun | 9 => 9 | 4 => 4 | 3 => 3 | n => n, fun | n => n⟩
theorem Tryz.lays100 : Go.Proofs.Lays.n100 Tryz.prog Tryz.lays100_ren := {
  mixed := by kernel_rfl
  f100 := Tryz.func143.trans (congrArg some (by kernel_rfl))
  f207 := Tryz.func148.trans (congrArg some (by kernel_rfl))
  t3 := Tryz.underlying3
  a3 := Tryz.isAgg3
  z3 := Tryz.sizeOf3
  v3 := Tryz.zeroValue3
  t4 := Tryz.underlying4
  a4 := Tryz.isAgg4
  z4 := Tryz.sizeOf4
  v4 := Tryz.zeroValue4
  t9 := Tryz.underlying9
  a9 := Tryz.isAgg9
  z9 := Tryz.sizeOf9
  v9 := Tryz.zeroValue9 }
open Go.RowKit Go.Lib in
theorem Tryz.strings_HasSuffix (s p : ByteArray) (w : World) (hs : s.size ≤ 9223372036854775807) :
    Calls Tryz.prog 143 #[.string s, .string p] w fun e w' => e = .returned (.bool (Lib.hasSuffix s.data.toList p.data.toList)) ∧ w' = w := Any.strings_HasSuffix Tryz.lays100 s p w hs
end Go.Proofs

/- The contract of strings.SplitSeq at a separator of one byte: its iterator hands on the words of the text in order. -/
namespace Go.Proofs.YtdgckdmgplpobaaGreatDoor
open Go.RowKit Go.Lib Go.Proofs

attribute [local go_sem] Oper.semAt_some

def lenAt (b : Nat) (W : World) : Nat := match W.cell? ⟨b, 0, none⟩ with
  | some (.string t) => t.size
  | _ => 0
theorem lenAt_eq {b : Nat} {W : World} {t : ByteArray} (h : W.cell? ⟨b, 0, none⟩ = some (.string t)) : lenAt b W = t.size := by unfold lenAt; rw [h]

theorem split_hit {c : UInt8} {t : ByteArray} {i : Nat} (h : indexByte t.data.toList c = i) : i < t.size ∧ wordsB c t = t.extract 0 i :: wordsB c (t.extract (i + 1) t.size) := by
  rcases indexByte_cases t.data.toList c with ⟨h1, _⟩ | ⟨k, h1, h2, h3, h4⟩
  · rw [h] at h1; omega
  · have : k = i := by rw [h] at h1; omega
    subst this
    refine ⟨by rw [size_list]; exact h2, ?_⟩
    unfold wordsB
    rw [wordsL_hit h3 h4, List.map_cons, extract_front, extract_back, txt_list]

theorem split_no {c : UInt8} {t : ByteArray} (h : indexByte t.data.toList c = -1) : wordsB c t = [t] := by
  rcases indexByte_cases t.data.toList c with ⟨_, h2⟩ | ⟨k, h1, _⟩
  · unfold wordsB
    rw [wordsL_no h2]; simp [txt_back]
  · rw [h] at h1; omega

structure SplitAt (b : Nat) (c : UInt8) (t : ByteArray) (W : World) : Prop where
  s : Boxed W b 9 (.string t)
  sep : Boxed W (b + 1) 9 (.string ⟨#[c]⟩)
  save : Boxed W (b + 2) 3 (.int .i64 0)

theorem SplitAt.of {b : Nat} {c : UInt8} {t : ByteArray} {A B : World} (h : SplitAt b c t A) (k : KeepsThree b (b + 1) (b + 2) A B) : SplitAt b c t B := ⟨k.1.trans h.s, k.2.1.trans h.sep, k.2.2.trans h.save⟩
theorem SplitAt.below {b : Nat} {c : UInt8} {t : ByteArray} {A B : World} (h : SplitAt b c t A) (k : Below A.heap.size A B) : SplitAt b c t B := h.of ⟨k.block _ h.s.lt, k.block _ h.sep.lt, k.block _ h.save.lt⟩
theorem SplitAt.set {b : Nat} {c : UInt8} {t : ByteArray} {A : World} (h : SplitAt b c t A) (u : ByteArray) : SplitAt b c u (A.setCell ⟨b, 0, none⟩ (.string u)) :=
  ⟨h.s.set _, (Below.heap_setCell A _ _ _ (by simp)).trans h.sep, (Below.heap_setCell A _ _ _ (by simp)).trans h.save⟩

set_option maxRecDepth 100000 in
set_option maxHeartbeats 4000000 in
theorem splitSeqC_in (c : UInt8) (s : ByteArray) (b : Nat) (w : World) (h : SplitAt b c s w) (hs : s.size ≤ 1000000000) :
    SeqCell Tryz.prog 93 #[.pointer (some ⟨b + 1, 0, none⟩), .pointer (some ⟨b, 0, none⟩), .pointer (some ⟨b + 2, 0, none⟩)] (fun x : ByteArray => .string x) b (KeepsThree b (b + 1) (b + 2)) (wordsB c s) w := by
  intro l J Jx W hW hJ hY h0
  have hS : SplitAt b c s W := h.below hW
  have HJ := Lib.hid hJ
  have HY := Lib.hid hY
  have c0 := hS.s.cell
  have c1 := hS.sep.cell
  have c2 := hS.save.cell
  have HS := Lib.hid hS
  clear hJ hY hS h
  have hone : (⟨#[c]⟩ : ByteArray).size = 1 := rfl
  refine callsIn_of_wp Tryz.func93 rfl trivial ?_ rfl
  simp only [Tryz.ntmps93, List.size_toArray, List.length_cons, List.length_nil, Nat.reduceAdd, Nat.reduceSub, Array.replicate_succ, Array.replicate_zero, List.push_toArray, List.append_toArray, List.nil_append, List.cons_append]
  gi_wp2
  gi_loopw [7] (fun _ wr => ∃ (pre : List ByteArray) (t : ByteArray), Hid (wordsB c s = pre ++ wordsB c t) ∧ Hid (SplitAt b c t wr) ∧ Hid (J pre wr) ∧ t.size ≤ 1000000000) (fun _ wr => lenAt b wr)
  case atStart => exact ⟨[], s, Lib.hid rfl, HS, Lib.hid h0, hs⟩
  case round =>
    obtain ⟨pre, t, HW, HT, HJp, htz⟩ := hrel
    have d0 := HT.out.s.cell
    have d1 := HT.out.sep.cell
    have d2 := HT.out.save.cell
    have f0 := HT.out.s.frozen
    obtain ⟨i, hi⟩ : ∃ i, indexByte t.data.toList c = i := ⟨_, rfl⟩
    have hcase : i = -1 ∨ ∃ k : Nat, i = k := by
      rcases indexByte_cases t.data.toList c with ⟨h1, _⟩ | ⟨k, h1, _⟩
      · exact Or.inl (by omega)
      · exact Or.inr ⟨k, by omega⟩
    have hx : ∀ (n : Nat) (W : World), CallsIn Fence.wide n Tryz.prog 80 #[.string t, .string ⟨#[c]⟩] W fun e w' => e = .returned (.int .i64 i) ∧ w' = W := fun n W => callsIn_wide.2 (by have := Tryz.strings_Index_one t c W; rwa [hi] at this)
    rcases hcase with rfl | ⟨k, rfl⟩
    · have hw : wordsB c t = [t] := split_no hi
      obtain ⟨fn, tmps, assign, body, hy, hR⟩ := HY.out pre t wr (by rw [HW.out, hw]; exact List.prefix_refl _) HJp.out
      have HX := Lib.hid hx
      have HWW := Lib.hid hw
      clear hi hw hx
      gi_wp2_with (refine ⟨trivial, rfl, ?_⟩; gi_at_call 80; refine (HX.out _ _).mono ?_; rintro e w' ⟨rfl, rfl⟩)
      refine ⟨rfl, hR.mono ?_⟩
      rintro e A (⟨rfl, hJA, hK⟩ | ⟨rfl, hJA⟩)
      · have HJA := Lib.hid hJA
        clear hJA
        gi_wp2
        go_end0
        exact ⟨⟨_, rfl⟩, .inl (by rw [HW.out, HWW.out]; exact HJA.out)⟩
      · have HJA := Lib.hid hJA
        clear hJA
        gi_wp2
        go_end0
        exact ⟨⟨_, rfl⟩, .inr ⟨pre ++ [t], by rw [HW.out, HWW.out]; exact List.prefix_refl _, HJA.out⟩⟩
    · obtain ⟨hk, hw⟩ := split_hit hi
      obtain ⟨fn, tmps, assign, body, hy, hR⟩ := HY.out pre (t.extract 0 k) wr (by rw [HW.out, hw]; exact ⟨wordsB c (t.extract (k + 1) t.size), by simp⟩) HJp.out
      have HX := Lib.hid hx
      have HWW := Lib.hid hw
      have hk0 : (0 : Int) ≤ (k : Int) := by omega
      have hk1 : (k : Int) ≤ (t.size : Int) := by omega
      have hk2 : (k : Int) + 1 ≤ (t.size : Int) := by omega
      clear hi hw hx
      gi_wp2_with (refine ⟨trivial, rfl, ?_⟩; gi_at_call 80; refine (HX.out _ _).mono ?_; rintro e w' ⟨rfl, rfl⟩)
      refine ⟨rfl, hR.mono ?_⟩
      rintro e A (⟨rfl, hJA, hK⟩ | ⟨rfl, hJA⟩)
      · have hSA := HT.out.of hK
        have g0 := hSA.s.cell
        have g1 := hSA.sep.cell
        have g2 := hSA.save.cell
        have e0 := hSA.s.frozen
        have HJA := Lib.hid hJA
        have HSA := Lib.hid hSA
        clear hJA hSA hK
        have hz : (t.extract (k + 1) t.size).size < t.size := by rw [ByteArray.size_extract]; omega
        gi_wp2
        go_roundw
        case rel => exact ⟨pre ++ [t.extract 0 k], t.extract (k + 1) t.size, Lib.hid (by rw [HW.out, HWW.out]; simp), Lib.hid (HSA.out.set _), Lib.hid (HJ.out _ _ _ HJA.out (grownBy_setCell' A b _)), by omega⟩
        case measure => rw [lenAt_eq (HSA.out.set _).s.cell, lenAt_eq d0]; exact hz
      · have HJA := Lib.hid hJA
        clear hJA
        gi_wp2
        refine bodyPost_ret (results_none rfl _ _ _) rfl ?_
        exact ⟨⟨_, rfl⟩, .inr ⟨pre ++ [t.extract 0 k], by rw [HW.out, HWW.out]; exact ⟨wordsB c (t.extract (k + 1) t.size), by simp⟩, HJA.out⟩⟩

def splitWorld (s : ByteArray) (c : UInt8) (w : World) : World := ((w.alloc (.cells #[.string s] 9)).alloc (.cells #[.string ⟨#[c]⟩] 9)).alloc (.cells #[.int .i64 0] 3)

theorem splitWorld_at (s : ByteArray) (c : UInt8) (w : World) : SplitAt w.heap.size c s (splitWorld s c w) := by
  have e1 : (w.alloc (.cells #[.string s] 9)).heap.size = w.heap.size + 1 := by simp
  have e2 : ((w.alloc (.cells #[.string s] 9)).alloc (.cells #[.string ⟨#[c]⟩] 9)).heap.size = w.heap.size + 2 := by simp
  refine ⟨((Boxed.new w _ _).alloc _).alloc _, ?_, ?_⟩
  · have := (Boxed.new (w.alloc (.cells #[.string s] 9)) 9 (.string ⟨#[c]⟩)).alloc (.cells #[.int .i64 0] 3)
    rw [e1] at this; exact this
  · have := Boxed.new ((w.alloc (.cells #[.string s] 9)).alloc (.cells #[.string ⟨#[c]⟩] 9)) 3 (.int .i64 0)
    rw [e2] at this; exact this
theorem splitWorld_below (s : ByteArray) (c : UInt8) (w : World) : Below w.heap.size w (splitWorld s c w) := (((Below.refl _ _).alloc (Nat.le_refl _) _).alloc (by simp) _).alloc (by simp; omega) _
theorem splitWorld_size (s : ByteArray) (c : UInt8) (w : World) : (splitWorld s c w).heap.size = w.heap.size + 3 := by simp [splitWorld]
def splitFn (b : Nat) : Value := .func (.func 93) #[] #[.pointer (some ⟨b + 1, 0, none⟩), .pointer (some ⟨b, 0, none⟩), .pointer (some ⟨b + 2, 0, none⟩)]

set_option maxHeartbeats 1000000 in
theorem splitSeq_any (s : ByteArray) (c : UInt8) (w : World) :
    Calls Tryz.prog 71 #[.string s, .string ⟨#[c]⟩, .int .i64 0] w fun e w' => e = .returned (splitFn w.heap.size) ∧ w' = splitWorld s c w := by
  go_enter Tryz.func71, Tryz.ntmps71
  go_wp2
  go_ret
  exact ⟨rfl, rfl⟩
set_option maxHeartbeats 1000000 in
theorem SplitSeq_any (s : ByteArray) (c : UInt8) (w : World) :
    Calls Tryz.prog 53 #[.string s, .string ⟨#[c]⟩] w fun e w' => e = .returned (splitFn w.heap.size) ∧ w' = splitWorld s c w := by
  go_enter Tryz.func53, Tryz.ntmps53
  go_wp2_with fail
  refine (splitSeq_any s c w).mono ?_
  rintro e w' ⟨rfl, rfl⟩
  go_wp2
  go_ret
  exact ⟨rfl, rfl⟩

end Go.Proofs.YtdgckdmgplpobaaGreatDoor

/- Contracts of classification.within and classification.number: the number from 1 to 99 that a word writes, without zeros in front; for words of up to 10^9 bytes. -/
namespace Go.Proofs.YtdgckdmgplpobaaGreatDoor
open Go.RowKit Go.Lib Go.Proofs

set_option maxHeartbeats 400000 in
theorem clwithin_any (n lo hi : Int) (w : World) :
    Calls Tryz.prog 133 #[.int .i64 n, .int .i64 lo, .int .i64 hi] w fun e w' => e = .returned (.bool (inB n lo hi)) ∧ w = w' := by
  by_cases h1 : lo ≤ n
  · by_cases h2 : n ≤ hi
    · have h : inB n lo hi = true := inB_true.2 ⟨h1, h2⟩
      rw [h]; clear h
      go_enter Tryz.func133, Tryz.ntmps133
      go_wp2
      go_ret
      exact ⟨rfl, rfl⟩
    · have h : inB n lo hi = false := inB_false.2 (fun q => h2 q.2)
      rw [h]; clear h
      go_enter Tryz.func133, Tryz.ntmps133
      go_wp2
      go_ret
      exact ⟨rfl, rfl⟩
  · have h : inB n lo hi = false := inB_false.2 (fun q => h1 q.1)
    rw [h]; clear h
    go_enter Tryz.func133, Tryz.ntmps133
    go_wp2
    go_ret
    exact ⟨rfl, rfl⟩

theorem clwithin_yes {n lo hi : Int} (w : World) (h : inB n lo hi = true) :
    Calls Tryz.prog 133 #[.int .i64 n, .int .i64 lo, .int .i64 hi] w fun e w' => e = .returned (.bool true) ∧ w = w' := by
  have := clwithin_any n lo hi w; rw [h] at this; exact this
theorem clwithin_no {n lo hi : Int} (w : World) (h : inB n lo hi = false) :
    Calls Tryz.prog 133 #[.int .i64 n, .int .i64 lo, .int .i64 hi] w fun e w' => e = .returned (.bool false) ∧ w = w' := by
  have := clwithin_any n lo hi w; rw [h] at this; exact this

def numW (l : List UInt8) : Option Nat := (List.range 100).find? fun v => decide (1 ≤ v) && decide (decDigits v = l)

theorem dec_inj {a b : Nat} (ha : a < 1000) (hb : b < 1000) (h : decDigits a = decDigits b) : a = b := by
  have h1 := atoi_dec a ha
  rw [h, atoi_dec b hb] at h1
  injection h1 with h1
  omega

theorem numW_some {l : List UInt8} {v : Nat} : numW l = some v ↔ (1 ≤ v ∧ v ≤ 99) ∧ decDigits v = l := by
  constructor
  · intro h
    have h1 := List.find?_some h
    have h2 := List.mem_of_find?_eq_some h
    simp only [Bool.and_eq_true, decide_eq_true_eq] at h1
    have := List.mem_range.1 h2
    exact ⟨⟨h1.1, by omega⟩, h1.2⟩
  · rintro ⟨⟨h1, h2⟩, h3⟩
    cases hf : numW l with
    | none =>
      have := List.find?_eq_none.1 hf v (List.mem_range.2 (by omega))
      simp [h1, h3] at this
    | some u =>
      have g1 := List.find?_some hf
      have g2 := List.mem_range.1 (List.mem_of_find?_eq_some hf)
      simp only [Bool.and_eq_true, decide_eq_true_eq] at g1
      rw [dec_inj (by omega) (by omega) (g1.2.trans h3.symm)]

theorem decB_list (v : Nat) : (decB v).data.toList = decDigits v := by simp [decB]

def NumPost (w : World) (r : Option Nat) (e : Ending) (w' : World) : Prop :=
  (match r with
    | some v => e = .returned (.tuple #[.int .i64 (v : Int), .bool true])
    | none => e = .returned (.tuple #[.int .i64 0, .bool false])) ∧ Below w.heap.size w w'

set_option maxHeartbeats 2000000 in
theorem clnumber_any (s : ByteArray) (w : World) (hL : Lay w) (hs : s.size ≤ 1000000) :
    Calls Tryz.prog 120 #[.string s] w (NumPost w (numW s.data.toList)) := by
  have dec : (∃ v, atoiAll s.data.toList = .ok v) ∨ ∀ v, atoiAll s.data.toList ≠ .ok v := by
    by_cases h : ∃ v, atoiAll s.data.toList = .ok v
    · exact Or.inl h
    · exact Or.inr fun v hv => h ⟨v, hv⟩
  rcases dec with ⟨v, hv⟩ | hv
  · have HA := Lib.hid (atoi_ok s v w hs hv)
    by_cases hr : 1 ≤ v ∧ v ≤ 99
    · obtain ⟨k, rfl⟩ : ∃ k : Nat, v = k := ⟨v.toNat, by omega⟩
      have HI := Lib.hid (fun W => itoa_small k W (by omega))
      have HW := Lib.hid (fun W => clwithin_yes (lo := 1) (hi := 99) W (inB_true.2 hr))
      by_cases he : decB k = s
      · have hn : numW s.data.toList = some k := numW_some.2 ⟨by omega, by rw [← he, decB_list]⟩
        have h1 := strEq_true he
        have h2 : (!((decB k).toList == s.toList)) = false := by rw [h1]; rfl
        rw [hn]
        clear hv hr he hn hL
        go_enter Tryz.func120, Tryz.ntmps120
        go_wp2_with fail
        refine (HA.out).mono ?_
        rintro e w1 ⟨rfl, hb⟩
        have HB := Lib.hid hb
        clear hb
        go_wp2_with fail
        refine (HW.out _).mono ?_
        rintro e w2 ⟨rfl, rfl⟩
        go_wp2_with fail
        refine (HI.out _).mono ?_
        rintro e w2 ⟨rfl, rfl⟩
        go_wp2_with fail
        go_ret2
        exact ⟨rfl, HB.out⟩
      · have hn : numW s.data.toList = none := by
          cases hf : numW s.data.toList with
          | none => rfl
          | some u =>
            obtain ⟨h1, h2⟩ := numW_some.1 hf
            rw [← h2, atoi_dec u (by omega)] at hv
            injection hv with hv
            have : u = k := by omega
            subst this
            exact absurd (bytes_ext (by rw [decB_list, h2])) he
        have h1 := strEq_false he
        have h2 : (!((decB k).toList == s.toList)) = true := by rw [h1]; rfl
        rw [hn]
        clear hv hr he hn hL
        go_enter Tryz.func120, Tryz.ntmps120
        go_wp2_with fail
        refine (HA.out).mono ?_
        rintro e w1 ⟨rfl, hb⟩
        have HB := Lib.hid hb
        clear hb
        go_wp2_with fail
        refine (HW.out _).mono ?_
        rintro e w2 ⟨rfl, rfl⟩
        go_wp2_with fail
        refine (HI.out _).mono ?_
        rintro e w2 ⟨rfl, rfl⟩
        go_wp2_with fail
        go_ret2
        exact ⟨rfl, HB.out⟩
    · have HW := Lib.hid (fun W => clwithin_no (lo := 1) (hi := 99) W (inB_false.2 hr))
      have hn : numW s.data.toList = none := by
        cases hf : numW s.data.toList with
        | none => rfl
        | some u =>
          obtain ⟨h1, h2⟩ := numW_some.1 hf
          rw [← h2, atoi_dec u (by omega)] at hv
          injection hv with hv
          exact absurd ⟨by omega, by omega⟩ hr
      rw [hn]
      clear hv hr hn hL
      go_enter Tryz.func120, Tryz.ntmps120
      go_wp2_with fail
      refine (HA.out).mono ?_
      rintro e w1 ⟨rfl, hb⟩
      have HB := Lib.hid hb
      clear hb
      go_wp2_with fail
      refine (HW.out _).mono ?_
      rintro e w2 ⟨rfl, rfl⟩
      go_wp2_with fail
      go_ret2
      exact ⟨rfl, HB.out⟩
  · have hn : numW s.data.toList = none := by
      cases hf : numW s.data.toList with
      | none => rfl
      | some u =>
        obtain ⟨h1, h2⟩ := numW_some.1 hf
        exact absurd (by rw [← h2]; exact atoi_dec u (by omega)) (hv u)
    have HA := Lib.hid (atoi_bad s w hL hs hv)
    rw [hn]
    clear hv hn hL
    go_enter Tryz.func120, Tryz.ntmps120
    go_wp2_with fail
    refine (HA.out).mono ?_
    rintro e w1 ⟨v, T, N, rfl, hb⟩
    have HB := Lib.hid hb
    clear hb
    go_wp2_with fail
    go_ret2
    exact ⟨rfl, HB.out⟩

end Go.Proofs.YtdgckdmgplpobaaGreatDoor

/- The contract of classification.Parts: the numbers of a code, and nothing for a text that is none; for texts of up to 10^6 bytes. -/
namespace Go.Proofs.YtdgckdmgplpobaaGreatDoor
open Go.RowKit Go.Lib Go.Proofs

attribute [local go_sem] Oper.semAt_some

theorem keepsOthers_below {A B : World} (h : Below A.heap.size A B) : KeepsOthers A B := ⟨h.size, fun k _ hk _ => (h.block k (Array.getElem?_eq_some_iff.1 hk).1).trans hk⟩

theorem boxed_below {A B : World} {b : Nat} {t : TypeId} {v : Value} (h : Boxed A b t v) (k : Below A.heap.size A B) : Boxed B b t v := (k.block _ h.lt).trans h

def numsB : List ByteArray → Option (List Nat)
  | [] => some []
  | x :: l => match numW x.data.toList, numsB l with
    | some v, some vs => some (v :: vs)
    | _, _ => none

theorem numsB_snoc (l : List ByteArray) (x : ByteArray) : numsB (l ++ [x]) = match numsB l, numW x.data.toList with
    | some vs, some v => some (vs ++ [v])
    | _, _ => none := by
  induction l with
  | nil =>
    simp only [List.nil_append, numsB]
    cases numW x.data.toList <;> rfl
  | cons y l ih =>
    simp only [List.cons_append, numsB, ih]
    cases numW y.data.toList <;> cases numsB l <;> cases numW x.data.toList <;> rfl

theorem numsB_pre {a b : List ByteArray} (h : a <+: b) (hn : numsB a = none) : numsB b = none := by
  obtain ⟨r, rfl⟩ := h
  induction a with
  | nil => simp [numsB] at hn
  | cons y l ih =>
    simp only [List.cons_append, numsB] at hn ⊢
    cases hy : numW y.data.toList with
    | none => rfl
    | some v =>
      rw [hy] at hn
      cases hl : numsB l with
      | none => rw [ih hl]
      | some vs => rw [hl] at hn; cases hn

theorem numsB_length : ∀ {l : List ByteArray} {vs : List Nat}, numsB l = some vs → vs.length = l.length
  | [], vs, h => by simp [numsB] at h; subst h; rfl
  | y :: l, vs, h => by
    simp only [numsB] at h
    cases hy : numW y.data.toList with
    | none => rw [hy] at h; cases h
    | some v =>
      cases hl : numsB l with
      | none => rw [hy, hl] at h; cases h
      | some us =>
        rw [hy, hl] at h
        injection h with h
        subst h
        simp [numsB_length hl]

def partsN (s : ByteArray) : List Nat := match numsB (wordsB 46 s) with
  | some vs => if vs.length ≤ 4 then vs else []
  | none => []

def asInts (l : List Nat) : List Int := l.map fun n : Nat => (n : Int)
theorem asInts_snoc (l : List Nat) (n : Nat) : asInts (l ++ [n]) = asInts l ++ [(n : Int)] := by simp [asInts]
def PartsPost (w : World) (ns : List Nat) (e : Ending) (w' : World) : Prop :=
  ∃ v, e = .returned v ∧ w'.ownsRow w.heap.size 3 1 v ns.length (cellsI (asInts ns)) ∧ Below w.heap.size w w'

structure PInv (w : World) (b : Nat) (pre : List ByteArray) (W : World) : Prop where
  got : ∃ ns v, numsB pre = some ns ∧ ns.length ≤ 4 ∧ Boxed W (w.heap.size + 1) 22 v ∧ W.ownsRow (b + 3) 3 1 v ns.length (cellsI (asInts ns))
  res : Boxed W w.heap.size 22 (.slice none 0 0)
  old : Below w.heap.size w W
  top : b + 3 ≤ W.heap.size

theorem PInv.step {w : World} {b : Nat} {pre : List ByteArray} {A B : World} {row : Option Nat} (h : PInv w b pre A) (hg : A.grownBy B row) (hb : w.heap.size + 1 < b)
    (hr : ∀ r, row = some r → (b ≤ r ∧ r < b + 3) ∨ (b ≤ r ∧ ∃ o : Obj, A.heap[r]? = some o ∧ o.isCells = false)) : PInv w b pre B := by
  obtain ⟨⟨ns, v, h1, h2, h3, h4⟩, h5, h6, h7⟩ := h
  have hne : ∀ k, k < b → Option.some k ≠ row := fun k hk e => by
    rcases hr k e.symm with h | h <;> omega
  refine ⟨⟨ns, v, h1, h2, h3.kept hg (hne _ (by omega)), h4.kept hg ?_⟩, h5.kept hg (hne _ (by omega)), h6.grown hg h6.size fun j e => by rcases hr j e with h | h <;> omega, Nat.le_trans h7 hg.size⟩
  rcases h4.2 with ⟨rfl, _⟩ | ⟨g, cap, cur, rfl, hg1, hgb, _⟩
  · exact .inl rfl
  · refine .inr fun e' => ?_
    rcases hr g (by simpa [Value.ownBlock] using e'.symm) with h | ⟨_, o, ho, hc⟩
    · omega
    · rw [hgb] at ho; cases ho; cases hc

structure PBad (w : World) (c : Code) (pre : List ByteArray) (W : World) : Prop where
  ret : c = .ret
  bad : numsB pre = none ∨ ∃ ns, numsB pre = some ns ∧ 4 < ns.length
  res : Boxed W w.heap.size 22 (.slice none 0 0)
  old : Below w.heap.size w W

theorem PBad.step {w : World} {c : Code} {pre : List ByteArray} {A B : World} {row : Option Nat} (h : PBad w c pre A) (hg : A.grownBy B row) (hr : ∀ r, row = some r → w.heap.size < r) : PBad w c pre B :=
  ⟨h.ret, h.bad, h.res.kept hg (fun e => by have := hr _ e.symm; omega), h.old.grown hg h.old.size fun j e => by have := hr j e; omega⟩

theorem partsN_bad {s : ByteArray} {pre : List ByteArray} (hp : pre <+: wordsB 46 s) (h : numsB pre = none ∨ ∃ ns, numsB pre = some ns ∧ 4 < ns.length) : partsN s = [] := by
  unfold partsN
  rcases h with h | ⟨ns, h, hl⟩
  · rw [numsB_pre hp h]
  · cases hn : numsB (wordsB 46 s) with
    | none => rfl
    | some vs =>
      have h1 := numsB_length h
      have h2 := numsB_length hn
      have h3 := hp.length_le
      show (if vs.length ≤ 4 then vs else []) = []
      rw [if_neg (by omega)]

theorem Tryz.infoI : (Tryz.prog.info? 3).map (fun i => (i.zero, i.size, i.bytes)) = some (some (.int .i64 0), 1, 8) := by kernel_rfl

theorem infoI_parts : ∃ i, Tryz.prog.info? 3 = some i ∧ i.zero = some (.int .i64 0) ∧ i.size = 1 ∧ i.bytes = 8 := info_parts Tryz.infoI

theorem words_sizes (c : UInt8) (s : ByteArray) : ∀ x ∈ wordsB c s, x.size ≤ s.size := by
  intro x hx
  obtain ⟨l, hl, rfl⟩ := List.mem_map.1 hx
  rw [txt_size, size_list]
  exact wordsL_len c _ l hl

def partsWorld (s : ByteArray) (w : World) : World := splitWorld s 46 ((w.alloc (.cells #[.slice none 0 0] 22)).alloc (.cells #[.slice none 0 0] 22))
theorem partsWorld_size (s : ByteArray) (w : World) : (partsWorld s w).heap.size = w.heap.size + 5 := by unfold partsWorld; rw [splitWorld_size]; simp
theorem partsWorld_inv (s : ByteArray) (w : World) : PInv w (w.heap.size + 1 + 1) [] (partsWorld s w) := by
  have e1 : (w.alloc (.cells #[.slice none 0 0] 22)).heap.size = w.heap.size + 1 := by simp
  have hb := splitWorld_below s 46 ((w.alloc (.cells #[.slice none 0 0] 22)).alloc (.cells #[.slice none 0 0] 22))
  have b0 := (Boxed.new w 22 (.slice none 0 0)).alloc (.cells #[.slice none 0 0] 22)
  have b1 := Boxed.new (w.alloc (.cells #[.slice none 0 0] 22)) 22 (.slice none 0 0)
  rw [e1] at b1
  have hold := ((Below.refl _ w).alloc (Nat.le_refl _) (.cells #[.slice none 0 0] 22)).alloc (by simp) (.cells #[.slice none 0 0] 22)
  refine ⟨⟨[], _, rfl, by simp, (hb.block _ b1.lt).trans b1, World.ownsRow_nil _ _ _ _⟩, (hb.block _ b0.lt).trans b0, hold.trans (hb.mono hold.size), by rw [partsWorld_size]; omega⟩

theorem PInv.put {w : World} {b : Nat} {pre : List ByteArray} {x : ByteArray} {A A1 A2 : World} {ns : List Nat} {n : Nat} {v v' : Value} {T : TypeId}
    (hn : numsB pre = some ns) (hx : numW x.data.toList = some n) (hlen : ns.length < 4) (hbx : w.heap.size + 1 < b)
    (hp : Boxed A (w.heap.size + 1) 22 v) (hr : A.ownsRow (b + 3) 3 1 v ns.length (cellsI (asInts ns))) (hres : Boxed A w.heap.size 22 (.slice none 0 0)) (hold : Below w.heap.size w A) (htop : b + 3 ≤ A.heap.size)
    (hb1 : Below A.heap.size A A1)
    (ho : A2.ownsRow (b + 3) 3 1 v' (ns.length + 1) (cellsI (asInts ns) ++ [.int .i64 (n : Int)])) (hg : (A1.alloc (.cells #[.int .i64 (n : Int)] T)).grownBy A2 v.ownBlock) :
    Boxed A2 (w.heap.size + 1) 22 v ∧ PInv w b (pre ++ [x]) (A2.setCell ⟨w.heap.size + 1, 0, none⟩ v') ∧ KeepsOthers A (A2.setCell ⟨w.heap.size + 1, 0, none⟩ v') ∧ KeepsThree b (b + 1) (b + 2) A (A2.setCell ⟨w.heap.size + 1, 0, none⟩ v') := by
  have hrow := fun r e => ownBlock_le hr r e
  have hrow' := fun r e => ownBlock_le ho r e
  -- a block below the row's base stays, but for the box of the numbers
  have hkeep : ∀ k, k < b + 3 → A2.heap[k]? = A.heap[k]? := fun k hk => by
    rw [hg.block k (by have := hb1.size; simp; omega) (fun e => by have := hrow k e.symm; omega), Below.heap_alloc _ _ _ (by have := hb1.size; omega), hb1.block k (by omega)]
  have hset : ∀ k, k < b + 3 → k ≠ w.heap.size + 1 → (A2.setCell ⟨w.heap.size + 1, 0, none⟩ v').heap[k]? = A.heap[k]? := fun k hk hne => by
    rw [Below.heap_setCell _ _ _ _ hne, hkeep k hk]
  have hbox : Boxed A2 (w.heap.size + 1) 22 v := (hkeep _ (by omega)).trans hp
  refine ⟨hbox, ⟨⟨ns ++ [n], v', by rw [numsB_snoc, hn, hx], by simp; omega, hbox.set v', ?_⟩, (hset _ (by omega) (by omega)).trans hres, ?_, ?_⟩, ?_, hset _ (by omega) (by omega), hset _ (by omega) (by omega), hset _ (by omega) (by omega)⟩
  · rw [asInts_snoc, ← cellsI_snoc]
    have := ho.kept (grownBy_setCell' A2 (w.heap.size + 1) v') (.inr fun e => by have := hrow' _ e; omega)
    simpa using this
  · exact (((hold.trans (hb1.mono hold.size)).alloc (by have := hold.size; have := hb1.size; omega) _).grown hg (by have := hold.size; have := hb1.size; simp; omega) (fun j e => by have := hrow j e; have := hold.size; omega)).setCell (by show w.heap.size ≤ w.heap.size + 1; omega) _
  · have h1 := hb1.size
    have h2 := hg.size
    rw [World.size_setCell]
    simp at h2
    omega
  · refine ((keepsOthers_below hb1).trans ((KeepsOthers.alloc _ _).trans (KeepsOthers.of_grownBy hg fun j o e hj => ?_))).trans (KeepsOthers.setCell _ _ _)
    have hr1 := ownsRow_below hr hb1
    rcases (hr1.alloc (.cells #[.int .i64 (n : Int)] T)).2 with ⟨rfl, _⟩ | ⟨g, cap, cur, rfl, _, hgb, _⟩
    · simp [Value.ownBlock] at e
    · obtain rfl : g = j := by simpa [Value.ownBlock] using e
      rw [hgb] at hj; cases hj; rfl

set_option maxRecDepth 100000 in
set_option maxHeartbeats 4000000 in
theorem clParts_any (s : ByteArray) (w : World) (hL : Lay w) (hs : s.size ≤ 1000000) :
    Calls Tryz.prog 102 #[.string s] w (PartsPost w (partsN s)) := by
  refine (callsIn_wide (n := 0)).1 ?_
  obtain ⟨i0, hi, hz0, hz1, hz2⟩ := infoI_parts
  have HL := Lib.hid hL
  have HWS := Lib.hid (words_sizes 46 s)
  clear hL
  refine callsIn_of_wp_marks Tryz.func102 rfl trivial ?_ rfl
  simp only [Tryz.ntmps102, List.size_toArray, List.length_cons, List.length_nil, Nat.reduceAdd, Nat.reduceSub, Array.replicate_succ, Array.replicate_zero, List.push_toArray, List.append_toArray, List.nil_append, List.cons_append]
  gi_wp2_with (refine ⟨trivial, rfl, ?_⟩; gi_at_call 53; refine (callsIn_wide.2 (SplitSeq_any s 46 _)).mono ?_; rintro e w' ⟨rfl, rfl⟩)
  have hsz := partsWorld_size s w
  have hinv := partsWorld_inv s w
  have hsp : SplitAt (w.heap.size + 1 + 1) 46 s (partsWorld s w) := by
    have := splitWorld_at s 46 ((w.alloc (.cells #[.slice none 0 0] 22)).alloc (.cells #[.slice none 0 0] 22))
    rw [World.size_alloc, World.size_alloc] at this
    exact this
  have hg0 : partsWorld s w = splitWorld s 46 ((w.alloc (.cells #[.slice none 0 0] 22)).alloc (.cells #[.slice none 0 0] 22)) := rfl
  rw [← hg0]
  clear hg0
  refine range_cell (gf := 93) (lb := #[.pointer (some ⟨w.heap.size + 1 + 1 + 1, 0, none⟩), .pointer (some ⟨w.heap.size + 1 + 1, 0, none⟩), .pointer (some ⟨w.heap.size + 1 + 1 + 2, 0, none⟩)]) rfl (enters_of Tryz.func93 (by kernel_rfl) rfl)
    (splitSeqC_in 46 s (w.heap.size + 1 + 1) _ hsp (by omega)) (by omega) keepsThree_t (keepsThree_b (by omega) (by omega) (by omega)) rfl
    (PInv w (w.heap.size + 1 + 1)) (PBad w)
    (fun pre A B row h hg hr => h.step hg (by omega) fun r e => Or.inr ⟨by have := (hr r e).1; omega, (hr r e).2⟩)
    (fun c pre A B row h hg hr => h.step hg fun r e => by have := (hr r e).1; omega)
    (fun pre A B h hg => h.step hg (by omega) fun r e => by cases e; exact Or.inl ⟨by omega, by omega⟩)
    hinv
    (fun x => { tmps := #[.string s, undef, .pointer (some ⟨w.heap.size, 0, none⟩), .pointer (some ⟨w.heap.size + 1, 0, none⟩), .string x, undef, undef, .string s, splitFn (w.heap.size + 1 + 1), .string x, undef, undef, undef, undef, undef, undef, undef, undef, undef, undef, undef, undef, undef, undef, undef, undef, undef], defers := [] }) ?assign ?body ?done ?stop
  case assign =>
    intro l x A K hK
    gi_wp2
    exact hK
  case body =>
    rintro l pre x A hpre ⟨⟨ns, v, h1, h2, h3, h4⟩, h5, h6, h7⟩
    have hLA : Lay A := HL.out.below h6 (Nat.le_refl _)
    have hxs : x.size ≤ 1000000 := by
      obtain ⟨r, hr⟩ := hpre
      have := HWS.out x (by rw [← hr]; simp)
      omega
    have HN : ∀ n, Hid (CallsIn (Fence.wide.inRound l) n Tryz.prog 120 #[.string x] A (NumPost A (numW x.data.toList))) := fun n => Lib.hid (CallsIn.inRound l (callsIn_wide.2 (clnumber_any x A hLA hxs)))
    have c3 := h3.cell
    have f3 := h3.frozen
    have c2 := h5.cell
    have f2 := h5.frozen
    obtain ⟨ao, cap, rfl, hcap, _⟩ := owns_gen h4
    cases hx : numW x.data.toList with
    | none =>
      rw [hx] at HN
      gi_wp2_with (refine ⟨trivial, rfl, ?_⟩; gi_at_call 120; refine ((HN _).out).mono ?_; rintro e A1 ⟨rfl, hb1⟩; have r2 := (boxed_below h5 hb1).cell; have g2 := (boxed_below h5 hb1).frozen; have HB1 := Lib.hid hb1; clear hb1)
      exact ⟨(keepsOthers_below HB1.out).trans (KeepsOthers.setCell _ _ _), rfl, Or.inl (by rw [numsB_snoc, h1, hx]), (boxed_below h5 HB1.out).set _, (h6.trans (HB1.out.mono h6.size)).setCell (Nat.le_refl _) _⟩
    | some n =>
      rw [hx] at HN
      by_cases h4l : ns.length = 4
      · have hd4 : ((ns.length : Int) == 4) = true := by rw [h4l]; rfl
        gi_wp2_with (refine ⟨trivial, rfl, ?_⟩; gi_at_call 120; refine ((HN _).out).mono ?_; rintro e A1 ⟨rfl, hb1⟩; have r2 := (boxed_below h5 hb1).cell; have g2 := (boxed_below h5 hb1).frozen; have r3 := (boxed_below h3 hb1).cell; have g3 := (boxed_below h3 hb1).frozen; have HB1 := Lib.hid hb1; clear hb1)
        exact ⟨(keepsOthers_below HB1.out).trans (KeepsOthers.setCell _ _ _), rfl, Or.inr ⟨ns ++ [n], by rw [numsB_snoc, h1, hx], by simp; omega⟩, (boxed_below h5 HB1.out).set _, (h6.trans (HB1.out.mono h6.size)).setCell (Nat.le_refl _) _⟩
      · have hd4 : ((ns.length : Int) == 4) = false := by rw [beq_eq_false_iff_ne]; omega
        have hsz2 : ∀ A1, Below A.heap.size A A1 → w.heap.size + 1 + 1 + 3 ≤ A1.heap.size := fun A1 h => Nat.le_trans h7 h.size
        have HSZ := Lib.hid hsz2
        have H1 := Lib.hid h1
        have HX := Lib.hid hx
        have H3 := Lib.hid h3
        have H4 := Lib.hid h4
        have H5 := Lib.hid h5
        have H6 := Lib.hid h6
        clear hsz2 h1 hx h6
        gi_wp2_with (first | (refine ⟨trivial, rfl, ?_⟩; gi_at_call 120; refine ((HN _).out).mono ?_; rintro e A1 ⟨rfl, hb1⟩; have r3 := (boxed_below h3 hb1).cell; have g3 := (boxed_below h3 hb1).frozen; have hrow := ownsRow_below h4 hb1; have hz := HSZ.out _ hb1; have HB1 := Lib.hid hb1; clear hb1) | (gi_at_builtin; refine wpListIn_append_own _ rfl _ _ 22 rfl (w.heap.size + 1 + 1 + 3) 3 i0 (.int .i64 0) 1 8 Tryz.underlying22 hi hz0 hz1 hz2 rfl (by decide) _ _ _ rfl (hrow.alloc _) ⟨A1.heap.size, 0, none⟩ 1 1 [.int .i64 (n : Int)] rfl rfl (cell_one_new _ _ _) (by simp [Value.oneCell']) (by unfold maxLen; omega) (by omega) (by simp; omega) ?_; intro v' w1 hown' hgrow _; obtain ⟨g', cap', rfl⟩ := ownsRow_succ hown'; obtain ⟨p1, p2, p3, p4⟩ := PInv.put H1.out HX.out (by omega) (by omega) H3.out H4.out H5.out H6.out h7 HB1.out hown' hgrow; have q3 := p1.cell; have q4 := p1.frozen))
        exact ⟨p3, p4, p2⟩
  case done =>
    rintro D A hD ⟨⟨ns, v, h1, h2, h3, h4⟩, h5, h6, h7⟩ hK
    have c3 := h3.cell
    have c2 := h5.cell
    have f2 := h5.frozen
    have hr : partsN s = ns := by unfold partsN; rw [h1]; exact if_pos h2
    obtain ⟨ao, cap, rfl, hcap, _⟩ := owns_gen h4
    have H1 := Lib.hid h1
    have HR := Lib.hid hr
    have HKK := Lib.hid hK
    clear h1 hr hK
    have hDw : w.heap.size + 5 ≤ D := by omega
    gi_wp2
    have hK2 := (KeepsOthers.setCell A ⟨w.heap.size, 0, none⟩ (.slice ao ns.length cap)).same _ _ HKK.out rfl
    have hg := grownBy_putObj' (A.setCell ⟨w.heap.size, 0, none⟩ (.slice ao ns.length cap)) D (.deferred none)
    have hb := (h5.set (.slice ao ns.length cap)).kept hg (fun e => by injection e; omega)
    have hrow := (h4.kept (grownBy_setCell' A w.heap.size (.slice ao ns.length cap)) (.inr fun e => by have := ownBlock_le h4 _ e; omega))
    refine ⟨by simp, .inl ⟨_, _, rfl, run_takeDeferred hK2, ?_⟩⟩
    have hc := hb.cell
    refine ⟨.slice ao ns.length cap, by simp [results, Tryz.results102, go_sem, hc], .slice ao ns.length cap, rfl, ?_, ?_⟩
    · rw [HR.out]
      exact ownsRow_mono (ownsRow_putObj hrow _ hK2 rfl) (by omega)
    · exact (h6.setCell (Nat.le_refl _) _).grown hg (by rw [World.size_setCell]; exact h6.size) fun j e => by cases e; omega
  case stop =>
    rintro D c pre A hD hpre ⟨rfl, hbad, hres, hold⟩ hK
    have HKK := Lib.hid hK
    have HR := Lib.hid (partsN_bad hpre hbad)
    clear hK hbad
    have hDw : w.heap.size + 5 ≤ D := by omega
    gi_wp2
    have hg := grownBy_putObj' A D (.deferred none)
    have hb := hres.kept hg (fun e => by injection e; omega)
    refine ⟨by simp, .inl ⟨_, _, rfl, run_takeDeferred HKK.out, ?_⟩⟩
    have hc := hb.cell
    refine ⟨.slice none 0 0, by simp [results, Tryz.results102, go_sem, hc], .slice none 0 0, rfl, ?_, ?_⟩
    · rw [HR.out]
      exact World.ownsRow_nil _ _ _ _
    · exact hold.grown hg hold.size fun j e => by cases e; omega

end Go.Proofs.YtdgckdmgplpobaaGreatDoor

/- Contracts of slices.Compare and slices.Equal for slices of int, and of classification.Compare, Under, isCode, covers: the order of codes, for texts of up to 10^6 bytes. -/
namespace Go.Proofs.YtdgckdmgplpobaaGreatDoor
open Go.RowKit Go.Lib Go.Proofs

def cmpL : List Int → List Int → Int
  | [], [] => 0
  | [], _ :: _ => -1
  | _ :: _, [] => 1
  | x :: xs, y :: ys => if x < y then -1 else if y < x then 1 else cmpL xs ys

theorem cmpL_drop {xs ys : List Int} {k : Nat} (hx : k < xs.length) (hy : k < ys.length) :
    cmpL (xs.drop k) (ys.drop k) = if xs.getD k 0 < ys.getD k 0 then -1 else if ys.getD k 0 < xs.getD k 0 then 1 else cmpL (xs.drop (k + 1)) (ys.drop (k + 1)) := by
  rw [List.drop_eq_getElem_cons hx, List.drop_eq_getElem_cons hy, getD_eq hx, getD_eq hy]
  rfl

theorem cmpL_le_nil (l : List Int) : cmpL l [] = if l = [] then 0 else 1 := by cases l <;> rfl
theorem cmpL_nil_le (l : List Int) : cmpL [] l = if l = [] then 0 else -1 := by cases l <;> rfl

theorem int3 (x y : Int) : compareInt x y = if x < y then -1 else if y < x then 1 else 0 := by unfold compareInt; rfl

set_option maxRecDepth 100000 in
set_option maxHeartbeats 2000000 in
theorem slCompareI_nil (ao ao' : Option Addr) (c c' m : Nat) (ys : List Int) (hm : ys.length = m) (hm1 : m ≤ 1000000) (w : World) :
    Calls Tryz.prog 144 #[.slice ao 0 c, .slice ao' m c'] w fun e w' => e = .returned (.int .i64 (cmpL [] ys)) ∧ w = w' := by
  by_cases h0 : m = 0
  · subst h0
    have hy : ys = [] := List.length_eq_zero_iff.1 hm
    subst hy
    go_enter Tryz.func144, Tryz.ntmps144
    go_wp2
    go_loop [11] (fun i => i = .int .i64 0) (fun _ => 0)
    case atStart => rfl
    case round =>
      subst hrel
      go_wp2
      go_ret
      exact ⟨rfl, rfl⟩
  · have hc : cmpL [] ys = -1 := by rw [cmpL_nil_le, if_neg (fun e => h0 (by rw [← hm, e]; rfl))]
    rw [hc]
    have hpos : (0 : Int) < (m : Int) := by omega
    clear hc hm
    go_enter Tryz.func144, Tryz.ntmps144
    go_wp2
    go_loop [11] (fun i => i = .int .i64 0) (fun _ => 0)
    case atStart => rfl
    case round =>
      subst hrel
      go_wp2
      go_ret
      exact ⟨rfl, rfl⟩

set_option maxRecDepth 100000 in
set_option maxHeartbeats 2000000 in
theorem slCompareI_some (b o c : Nat) (ao' : Option Addr) (c' n m : Nat) (xs ys : List Int) (hn : xs.length = n) (hm : ys.length = m) (hn1 : n ≤ 1000000) (hm1 : m ≤ 1000000) (w : World)
    (hx : ∀ i, i < n → w.cell? ⟨b, o + i, none⟩ = some (.int .i64 (xs.getD i 0)))
    (hy : m = 0 ∨ ∃ b' o', ao' = some ⟨b', o', none⟩ ∧ ∀ i, i < m → w.cell? ⟨b', o' + i, none⟩ = some (.int .i64 (ys.getD i 0))) :
    Calls Tryz.prog 144 #[.slice (some ⟨b, o, none⟩) n c, .slice ao' m c'] w fun e w' => e = .returned (.int .i64 (cmpL xs ys)) ∧ w = w' := by
  have HX := Lib.hid hx
  have HN := Lib.hid hn
  have HM := Lib.hid hm
  have HCC := Lib.hid (fun x y => Tryz.cmp_Compare_int x y w)
  clear hx hn hm
  rcases hy with rfl | ⟨b', o', rfl, hy⟩
  · have hys : ys = [] := List.length_eq_zero_iff.1 HM.out
    subst hys
    clear HM
    by_cases h0 : n = 0
    · subst h0
      have hxs : xs = [] := List.length_eq_zero_iff.1 HN.out
      subst hxs
      go_enter Tryz.func144, Tryz.ntmps144
      go_wp2
      go_loop [11] (fun i => i = .int .i64 0) (fun _ => 0)
      case atStart => rfl
      case round =>
        subst hrel
        go_wp2
        go_ret
        exact ⟨rfl, rfl⟩
    · have hc : cmpL xs [] = 1 := by rw [cmpL_le_nil, if_neg (fun e => h0 (by rw [← HN.out, e]; rfl))]
      rw [hc]
      have hpos : (0 : Int) < (n : Int) := by omega
      have hc0 := HX.out 0 (by omega)
      rw [Nat.add_zero] at hc0
      clear hc
      go_enter Tryz.func144, Tryz.ntmps144
      go_wp2
      go_loop [11] (fun i => i = .int .i64 0) (fun _ => 0)
      case atStart => rfl
      case round =>
        subst hrel
        go_wp2
        go_ret
        exact ⟨rfl, rfl⟩
  · have HY := Lib.hid hy
    clear hy
    obtain ⟨r, hr⟩ : ∃ r, cmpL xs ys = r := ⟨_, rfl⟩
    rw [hr]
    have HR := Lib.hid hr
    clear hr
    go_enter Tryz.func144, Tryz.ntmps144
    go_wp2
    go_loop [11] (fun i => ∃ k : Nat, i = .int .i64 k ∧ k ≤ n ∧ k ≤ m ∧ Hid (cmpL (xs.drop k) (ys.drop k) = r)) (fun i => n - (RowKit.intOf i).toNat)
    case atStart => exact ⟨0, rfl, by omega, by omega, Lib.hid HR.out⟩
    case round =>
      obtain ⟨k, rfl, hkn, hkm, HK⟩ := hrel
      by_cases hlt : k < n
      · by_cases hlt2 : k < m
        · have c1 := HX.out k hlt
          have c2 := HY.out k hlt2
          have hd := cmpL_drop (xs := xs) (ys := ys) (k := k) (by rw [HN.out]; exact hlt) (by rw [HM.out]; exact hlt2)
          rw [HK.out] at hd
          have hcc := HCC.out (xs.getD k 0) (ys.getD k 0)
          rw [int3] at hcc
          generalize xs.getD k 0 = x at *
          generalize ys.getD k 0 = y at *
          by_cases h1 : x < y
          · rw [if_pos h1] at hd hcc
            have HD := Lib.hid hd
            have HC := Lib.hid hcc
            clear hd hcc
            go_wp2_with (go_at_call 44; refine (HC.out).mono ?_; rintro e w' ⟨rfl, rfl⟩)
            go_ret
            exact ⟨ret_int HD.out.symm, rfl⟩
          · rw [if_neg h1] at hd hcc
            by_cases h2 : y < x
            · rw [if_pos h2] at hd hcc
              have HD := Lib.hid hd
              have HC := Lib.hid hcc
              clear hd hcc
              go_wp2_with (go_at_call 44; refine (HC.out).mono ?_; rintro e w' ⟨rfl, rfl⟩)
              go_ret
              exact ⟨ret_int HD.out.symm, rfl⟩
            · rw [if_neg h2] at hd hcc
              have HD := Lib.hid hd
              have HC := Lib.hid hcc
              clear hd hcc
              go_wp2_with (go_at_call 44; refine (HC.out).mono ?_; rintro e w' ⟨rfl, rfl⟩)
              go_round
              case rel => exact ⟨k + 1, by go_num, by omega, by omega, Lib.hid HD.out.symm⟩
              case measure => simp [RowKit.intOf]; omega
        · obtain rfl : k = m := by omega
          have hr1 : r = 1 := by
            have := HK.out
            rw [List.drop_eq_nil_of_le (show ys.length ≤ k by rw [HM.out]; exact Nat.le_refl _), cmpL_le_nil, if_neg] at this
            · exact this.symm
            · intro e
              have := congrArg List.length e
              simp [HN.out] at this
              omega
          have c1 := HX.out k hlt
          subst hr1
          have hge : (k : Int) ≤ (k : Int) := Int.le_refl _
          go_wp2
          go_ret
          exact ⟨rfl, rfl⟩
      · obtain rfl : k = n := by omega
        have hr1 : r = if k < m then -1 else 0 := by
          have := HK.out
          rw [List.drop_eq_nil_of_le (show xs.length ≤ k by rw [HN.out]; exact Nat.le_refl _), cmpL_nil_le] at this
          rw [← this]
          by_cases hkm2 : k < m
          · rw [if_pos hkm2, if_neg]
            intro e
            have := congrArg List.length e
            simp [HM.out] at this
            omega
          · rw [if_neg hkm2, if_pos (List.drop_eq_nil_of_le (by rw [HM.out]; omega))]
        by_cases hkm2 : k < m
        · rw [if_pos hkm2] at hr1
          subst hr1
          have hlt3 : (k : Int) < (m : Int) := by omega
          go_wp2
          go_ret
          exact ⟨rfl, rfl⟩
        · rw [if_neg hkm2] at hr1
          subst hr1
          have hlt3 : (m : Int) ≤ (k : Int) := by omega
          go_wp2
          go_ret
          exact ⟨rfl, rfl⟩

theorem owned_ints {w : World} {base n : Nat} {v : Value} {l : List Int} (h : w.ownsRow base 3 1 v n (cellsI l)) :
    ∃ ao cap, v = .slice ao n cap ∧ n ≤ cap ∧ l.length = n ∧ (n = 0 ∨ ∃ g, ao = some ⟨g, 0, none⟩ ∧ g < w.heap.size ∧ base ≤ g ∧ ∀ i, i < n → w.cell? ⟨g, 0 + i, none⟩ = some (.int .i64 (l.getD i 0))) := by
  have hl : l.length = n := by have := h.1; simpa [cellsI] using this
  rcases h.2 with ⟨hv, h0⟩ | ⟨g, cap, cur, hv, hg, hh, hnc, _⟩
  · exact ⟨none, 0, by rw [hv, h0], by omega, hl, Or.inl h0⟩
  · refine ⟨some ⟨g, 0, none⟩, cap, hv, hnc, hl, Or.inr ⟨g, rfl, ?_, hg, fun i hi => ?_⟩⟩
    · by_cases hlt : g < w.heap.size
      · exact hlt
      · rw [Array.getElem?_eq_none (by omega)] at hh; cases hh
    · subst hv
      rw [Nat.zero_add, h.cellAt i (by omega), cellsI_get l i (by omega)]

theorem partsN_len (s : ByteArray) : (partsN s).length ≤ 4 := by
  unfold partsN
  split
  · split
    · assumption
    · simp
  · simp

def cmpCode (a b : ByteArray) : Int := if partsN a = [] ∧ partsN b = [] then compareBytes a.data.toList b.data.toList else cmpL (asInts (partsN a)) (asInts (partsN b))

def isCodeB (s : ByteArray) : Bool := decide (partsN s ≠ [])

set_option maxHeartbeats 2000000 in
theorem clisCode_any (s : ByteArray) (w : World) (hL : Lay w) (hs : s.size ≤ 1000000) :
    Calls Tryz.prog 138 #[.string s] w fun e w' => e = .returned (.bool (isCodeB s)) ∧ Below w.heap.size w w' := by
  have hP := clParts_any s w hL hs
  have hl := partsN_len s
  have hd : ∀ n : Nat, (partsN s).length = n → isCodeB s = decide ((0 : Int) < (n : Int)) := fun n hn => by
    unfold isCodeB
    subst hn
    rw [decide_eq_decide]
    cases partsN s <;> simp <;> omega
  obtain ⟨r, hr⟩ : ∃ r, isCodeB s = r := ⟨_, rfl⟩
  rw [hr]
  have hd' : ∀ n : Nat, (partsN s).length = n → r = decide ((0 : Int) < (n : Int)) := fun n hn => hr.symm.trans (hd n hn)
  have HP := Lib.hid hP
  have HD := Lib.hid hd'
  clear hP hd hd' hr hL
  go_enter Tryz.func138, Tryz.ntmps138
  go_wp2_with fail
  refine (HP.out).mono ?_
  rintro e w1 ⟨v, rfl, ho, hb⟩
  obtain ⟨ao, cap, rfl, _, hll, _⟩ := owned_ints ho
  obtain ⟨n, hn⟩ : ∃ n, (partsN s).length = n := ⟨_, rfl⟩
  have hdn := HD.out n hn
  rw [hn] at hll hl ho ⊢
  subst hdn
  clear ho hll hn
  go_wp2
  go_ret
  exact ⟨by simp, hb⟩

set_option maxRecDepth 100000 in
set_option maxHeartbeats 4000000 in
theorem clCompare_any (a b : ByteArray) (w : World) (hL : Lay w) (ha : a.size ≤ 1000000) (hb : b.size ≤ 1000000) :
    Calls Tryz.prog 140 #[.string a, .string b] w fun e w' => e = .returned (.int .i64 (cmpCode a b)) ∧ Below w.heap.size w w' := by
  have HP := Lib.hid (clParts_any a w hL ha)
  have HQ := Lib.hid (fun w' (h : Below w.heap.size w w') => clParts_any b w' (hL.below h (Nat.le_refl _)) hb)
  have HS := Lib.hid (fun w => Tryz.strings_Compare a b w)
  have hla := partsN_len a
  have hlb := partsN_len b
  obtain ⟨r, hr⟩ : ∃ r, cmpCode a b = r := ⟨_, rfl⟩
  rw [hr]
  unfold cmpCode at hr
  have HR := Lib.hid hr
  clear hr hL
  go_enter Tryz.func140, Tryz.ntmps140
  go_wp2_with fail
  refine (HP.out).mono ?_
  rintro e w1 ⟨v, rfl, ho, hb1⟩
  have HB1 := Lib.hid hb1
  have HO := Lib.hid ho
  clear hb1 ho
  go_wp2_with fail
  refine (HQ.out _ HB1.out).mono ?_
  rintro e w2 ⟨u, rfl, ho2, hb2⟩
  have ho1 := ownsRow_below HO.out hb2
  have HB2 := Lib.hid (HB1.out.trans (hb2.mono HB1.out.size))
  clear hb2 HO HB1 HP HQ
  obtain ⟨ao, c, rfl, _, hl1, hx⟩ := owned_ints ho1
  obtain ⟨ao', c', rfl, _, hl2, hy⟩ := owned_ints ho2
  clear ho1 ho2
  obtain ⟨xs, hxs⟩ : ∃ xs, xs = asInts (partsN a) := ⟨_, rfl⟩
  obtain ⟨ys, hys⟩ : ∃ ys, ys = asInts (partsN b) := ⟨_, rfl⟩
  obtain ⟨n, hn⟩ : ∃ n, n = (partsN a).length := ⟨_, rfl⟩
  obtain ⟨m, hm⟩ : ∃ m, m = (partsN b).length := ⟨_, rfl⟩
  have hA : partsN a = [] ↔ n = 0 := by rw [hn]; exact List.length_eq_zero_iff.symm
  have hB : partsN b = [] ↔ m = 0 := by rw [hm]; exact List.length_eq_zero_iff.symm
  have hr := HR.out
  simp only [hA, hB] at hr
  rw [← hxs, ← hys] at hr
  rw [← hxs] at hx hl1
  rw [← hys] at hy hl2
  rw [← hn] at hx hl1 hla ⊢
  rw [← hm] at hy hl2 hlb ⊢
  clear HR hA hB hxs hys hn hm
  by_cases h0 : n = 0
  · subst h0
    by_cases h1 : m = 0
    · subst h1
      rw [if_pos ⟨rfl, rfl⟩] at hr
      subst hr
      clear hx hy hl1 hl2
      go_wp2_with fail
      refine (HS.out _).mono ?_
      rintro e w3 ⟨rfl, rfl⟩
      go_wp2
      go_ret
      exact ⟨rfl, HB2.out⟩
    · rw [if_neg (fun h => h1 h.2)] at hr
      have hxs : xs = [] := List.length_eq_zero_iff.1 hl1
      subst hxs
      have HC := Lib.hid (slCompareI_nil ao ao' c c' m ys hl2 (by omega) w2)
      have h1' : ((m : Int) == 0) = false := by rw [beq_eq_false_iff_ne]; omega
      clear hx hy hl1 hl2
      go_wp2_with fail
      refine (HC.out).mono ?_
      rintro e w3 ⟨rfl, rfl⟩
      go_wp2
      go_ret
      exact ⟨rfl, HB2.out⟩
  · rw [if_neg (fun h => h0 h.1)] at hr
    have h0' : ((n : Int) == 0) = false := by rw [beq_eq_false_iff_ne]; omega
    rcases hx with hx | ⟨g, rfl, hg, _, hx⟩
    · exact absurd hx h0
    have HC := Lib.hid (slCompareI_some g 0 c ao' c' n m xs ys hl1 hl2 (by omega) (by omega) w2 hx (hy.imp id fun ⟨g', h1, _, _, h2⟩ => ⟨g', 0, h1, h2⟩))
    clear hx hy hl1 hl2
    go_wp2_with fail
    refine (HC.out).mono ?_
    rintro e w3 ⟨rfl, rfl⟩
    go_wp2
    go_ret
    exact ⟨rfl, HB2.out⟩

theorem strNil_true {a : ByteArray} (h : a = ⟨#[]⟩) : a.toList = [] := by subst h; rw [ByteArray.toList_eq]
theorem strNil_false {a : ByteArray} (h : a ≠ ⟨#[]⟩) : ¬ a.toList = [] := fun e => h (bytes_ext (by rw [← ByteArray.toList_eq, e]))

end Go.Proofs.YtdgckdmgplpobaaGreatDoor

/- Rows of elements of one cell or more that lie in memory, and slices.IndexFunc and slices.DeleteFunc for []string, for every predicate that returns; for rows of up to 10^6 elements. -/
namespace Go.Proofs.YtdgckdmgplpobaaGreatDoor
open Go.RowKit Go.Lib Go.Proofs

def RowG (w : World) (v : Value) (n size : Nat) (xs : List Value) : Prop :=
  xs.length = n * size ∧ ∃ ao cap, v = .slice ao n cap ∧ n ≤ cap ∧ (n = 0 ∨ ∃ b o, ao = some ⟨b, o, none⟩ ∧ b < w.heap.size ∧ ∀ j, j < n * size → w.cell? ⟨b, o + j, none⟩ = xs[j]?)

theorem RowG.below {w w' : World} {v : Value} {n size : Nat} {xs : List Value} (h : RowG w v n size xs) (hb : Below w.heap.size w w') : RowG w' v n size xs := by
  obtain ⟨h0, ao, cap, h1, h2, h3⟩ := h
  refine ⟨h0, ao, cap, h1, h2, ?_⟩
  rcases h3 with h3 | ⟨b, o, h4, h5, h6⟩
  · exact Or.inl h3
  · exact Or.inr ⟨b, o, h4, Nat.lt_of_lt_of_le h5 hb.size, fun j hj => by rw [hb.cell (by exact h5)]; exact h6 j hj⟩

theorem RowG.owns {w : World} {base size n : Nat} {e : TypeId} {v : Value} {xs : List Value} (h : w.ownsRow base e size v n xs) : RowG w v n size xs := by
  refine ⟨h.1, ?_⟩
  rcases h.2 with ⟨hv, h0⟩ | ⟨g, cap, cur, hv, hg, hh, hnc, _⟩
  · exact ⟨none, 0, by rw [hv, h0], by omega, Or.inl h0⟩
  · refine ⟨some ⟨g, 0, none⟩, cap, hv, hnc, Or.inr ⟨g, 0, rfl, ?_, fun j hj => ?_⟩⟩
    · by_cases hlt : g < w.heap.size
      · exact hlt
      · rw [Array.getElem?_eq_none (by omega)] at hh; cases hh
    · subst hv
      rw [Nat.zero_add, h.cellAt j hj]

def cellsS (l : List ByteArray) : List Value := l.map .string
theorem cellsS_get (l : List ByteArray) (i : Nat) (hi : i < l.length) : (cellsS l)[i]? = some (.string l[i]) := by simp [cellsS, hi]
theorem cellsS_snoc (l : List ByteArray) (x : ByteArray) : cellsS l ++ [.string x] = cellsS (l ++ [x]) := by simp [cellsS]
theorem cellsS_app (l r : List ByteArray) : cellsS l ++ cellsS r = cellsS (l ++ r) := by simp [cellsS]

theorem grownBy_below {A B : World} {row : Option Nat} (h : Below A.heap.size A B) : A.grownBy B row := ⟨h.os, h.tape, h.output, h.size, fun k hk _ => h.block k hk⟩
theorem grownBy_trans {a b c : World} {row : Option Nat} (h : a.grownBy b row) (k : b.grownBy c row) : a.grownBy c row :=
  ⟨k.os.trans h.os, k.tape.trans h.tape, k.output.trans h.output, Nat.le_trans h.size k.size, fun i hi hne => (k.block i (Nat.lt_of_lt_of_le hi h.size) hne).trans (h.block i hi hne)⟩
theorem grownBy_refl (a : World) (row : Option Nat) : a.grownBy a row := ⟨rfl, rfl, rfl, Nat.le_refl _, fun _ _ _ => rfl⟩
def IndexPost {α : Type} (p : α → Bool) (xs : List α) (w : World) (e : Ending) (w' : World) : Prop :=
  ∃ i : Int, e = .returned (.int .i64 i) ∧ ((i = -1 ∧ ∀ x ∈ xs, p x = false) ∨ ∃ k : Nat, i = k ∧ ∃ h : k < xs.length, p xs[k] = true ∧ ∀ x ∈ xs.take k, p x = false) ∧ Below w.heap.size w w'

theorem take_snoc_pred {α : Type} {p : α → Bool} {xs : List α} {k : Nat} (hk : k < xs.length) (h : ∀ x ∈ xs.take k, p x = false) (h2 : p xs[k] = false) : ∀ x ∈ xs.take (k + 1), p x = false := by
  intro x hx
  rw [List.take_succ_eq_append_getElem hk] at hx
  rcases List.mem_append.1 hx with hx | hx
  · exact h x hx
  · rw [List.mem_singleton] at hx; rw [hx]; exact h2

theorem filter_step {α : Type} {p : α → Bool} {xs : List α} {k : Nat} (hk : k < xs.length) : (xs.take (k + 1)).filter (fun x => !p x) = (xs.take k).filter (fun x => !p x) ++ if p xs[k] = true then [] else [xs[k]] := by
  rw [List.take_succ_eq_append_getElem hk, List.filter_append]
  cases h : p xs[k] <;> simp [h]

structure DelInv (p : ByteArray → Bool) (xs : List ByteArray) (w : World) (base g n cap i j : Nat) (W : World) : Prop where
  row : ∃ ys, W.ownsRow base 9 1 (.slice (some ⟨g, 0, none⟩) n cap) n (cellsS ys) ∧ ys.length = n ∧ ys.take i = (xs.take j).filter (fun x => !p x) ∧ ys.drop j = xs.drop j
  lt : i < j
  old : w.grownBy W (some g)

theorem DelInv.keep {p : ByteArray → Bool} {xs : List ByteArray} {w : World} {base g n cap i j : Nat} {A B : World} (h : DelInv p xs w base g n cap i j A) (hb : Below A.heap.size A B) : DelInv p xs w base g n cap i j B :=
  ⟨h.row.imp fun _ hy => ⟨ownsRow_below hy.1 hb, hy.2⟩, h.lt, grownBy_trans h.old (grownBy_below hb)⟩

theorem DelInv.cell {p : ByteArray → Bool} {xs : List ByteArray} {w : World} {base g n cap i j : Nat} {A : World} (h : DelInv p xs w base g n cap i j A) (hn : n = xs.length) (hj : j < n) : A.cell? ⟨g, 0 + j, none⟩ = some (.string (xs[j]'(by omega))) ∧ (∃ u, A.cell? ⟨g, 0 + i, none⟩ = some (.string u)) ∧ A.frozen? ⟨g, 0 + i, none⟩ = false := by
  obtain ⟨⟨ys, h1, h2, h3, h4⟩, h5, h6⟩ := h
  have hij : i < ys.length := by omega
  refine ⟨?_, ⟨ys[i], ?_⟩, by rw [Nat.zero_add]; exact h1.frozenAt i⟩
  · rw [Nat.zero_add, h1.cellAt j (by omega), cellsS_get ys j (by omega)]
    have := congrArg (fun l => l[0]?) h4
    simp only [List.getElem?_drop, Nat.add_zero] at this
    rw [List.getElem?_eq_getElem (by omega), List.getElem?_eq_getElem (by omega)] at this
    injection this with this
    rw [this]
  · rw [Nat.zero_add, h1.cellAt i (by omega), cellsS_get ys i hij]

theorem DelInv.store {p : ByteArray → Bool} {xs : List ByteArray} {w : World} {base g n cap i j : Nat} {A : World} (h : DelInv p xs w base g n cap i j A) (hn : n = xs.length) (hj : j < n) (hp : p (xs[j]'(by omega)) = false) : DelInv p xs w base g n cap (i + 1) (j + 1) (A.setCell ⟨g, 0 + i, none⟩ (.string (xs[j]'(by omega)))) := by
  obtain ⟨⟨ys, h1, h2, h3, h4⟩, h5, h6⟩ := h
  rw [Nat.zero_add]
  obtain ⟨s1, s2⟩ := h1.stored i (.string (xs[j]'(by omega)))
  refine ⟨⟨ys.set i (xs[j]'(by omega)), ?_, by simp [h2], ?_, ?_⟩, by omega, grownBy_trans h6 s2⟩
  · have : (cellsS ys).set i (.string (xs[j]'(by omega))) = cellsS (ys.set i (xs[j]'(by omega))) := by simp [cellsS, List.map_set]
    rw [this] at s1; exact s1
  · rw [filter_step (by omega), if_neg (by rw [hp]; decide), ← h3, List.take_succ_eq_append_getElem (by simp; omega)]
    rw [List.take_set_of_le (by omega)]
    simp
  · rw [List.drop_set_of_lt (by omega), ← List.drop_drop, ← List.drop_drop, h4]

end Go.Proofs.YtdgckdmgplpobaaGreatDoor

/- Contracts of classification.parent and codes: a code without its last number; the codes of a list of headings; for lists of up to 10^6 headings with texts of up to 10^6 bytes. -/
namespace Go.Proofs.YtdgckdmgplpobaaGreatDoor
open Go.RowKit Go.Lib Go.Proofs

def parentB (s : ByteArray) : ByteArray := s.extract 0 (lastIndexByte s 46).toNat

theorem parentB_size (s : ByteArray) : (parentB s).size ≤ s.size := by unfold parentB; rw [ByteArray.size_extract]; omega

set_option maxHeartbeats 1000000 in
theorem clparent_any (s : ByteArray) (w : World) (hs : s.size ≤ 1000000) :
    Calls Tryz.prog 145 #[.string s] w fun e w' => e = .returned (.string (parentB s)) ∧ w = w' := by
  have h1 := Tryz.strings_LastIndex_one s ⟨#[46]⟩ rfl (by omega)
  have h2 := lastIndexByte_spec s 46
  have e46 : (((⟨#[46]⟩ : ByteArray)[0]'(by decide)).toNat : Int) = 46 := rfl
  rw [e46] at h1
  have hp : parentB s = s.extract 0 (lastIndexByte s 46).toNat := rfl
  rw [hp]
  clear hp
  rcases h2 with ⟨he, _⟩ | ⟨i, hi, he, _⟩
  · rw [he] at h1 ⊢
    have H1 := Lib.hid h1
    clear h1 he
    go_enter Tryz.func145, Tryz.ntmps145
    go_wp2_with fail
    refine (H1.out _).mono ?_
    rintro e w' ⟨rfl, rfl⟩
    go_wp2
    go_ret
    exact ⟨rfl, rfl⟩
  · rw [he] at h1 ⊢
    have H1 := Lib.hid h1
    have hi1 : (i : Int) ≤ (s.size : Int) := by omega
    clear h1 he
    go_enter Tryz.func145, Tryz.ntmps145
    go_wp2_with fail
    refine (H1.out _).mono ?_
    rintro e w' ⟨rfl, rfl⟩
    go_wp2
    go_ret
    exact ⟨by simp, rfl⟩

abbrev Head := ByteArray × ByteArray

def cellsH : List Head → List Value
  | [] => []
  | h :: l => .string h.1 :: .string h.2 :: cellsH l

theorem cellsH_get : ∀ (l : List Head) (i : Nat) (hi : i < l.length), (cellsH l)[i * 2]? = some (.string l[i].1) ∧ (cellsH l)[i * 2 + 1]? = some (.string l[i].2)
  | [], i, hi => absurd hi (Nat.not_lt_zero _)
  | h :: l, 0, _ => ⟨rfl, rfl⟩
  | h :: l, i + 1, hi => by
    have := cellsH_get l i (by simpa using hi)
    rw [show (i + 1) * 2 = i * 2 + 1 + 1 by omega]
    simpa [cellsH] using this

theorem cellsH_app (l r : List Head) : cellsH l ++ cellsH r = cellsH (l ++ r) := by
  induction l with
  | nil => rfl
  | cons h l ih => simp only [cellsH, List.cons_append, ih]

def HeadsOk (hs : List Head) : Prop := ∀ h ∈ hs, h.1.size ≤ 1000000 ∧ h.2.size ≤ 1000000

theorem Tryz.infoS : (Tryz.prog.info? 9).map (fun i => (i.zero, i.size, i.bytes)) = some (some (.string ⟨#[]⟩), 1, 16) := by kernel_rfl
theorem infoS_parts : ∃ i, Tryz.prog.info? 9 = some i ∧ i.zero = some (.string ⟨#[]⟩) ∧ i.size = 1 ∧ i.bytes = 16 := info_parts Tryz.infoS

theorem one_str (s : ByteArray) : ∀ u ∈ [Value.string s], u.oneCell' = true := by
  intro u hu; simp at hu; subst hu; rfl

end Go.Proofs.YtdgckdmgplpobaaGreatDoor

/- The contract of classification.isName: from 1 to 40 bytes from 32 to 126, no blank at either end; for texts of up to 10^6 bytes. -/
namespace Go.Proofs.YtdgckdmgplpobaaGreatDoor
open Go.RowKit Go.Lib Go.Proofs

def plainC (c : UInt8) : Bool := decide (32 ≤ c.toNat ∧ c.toNat ≤ 126)

def nameB (s : ByteArray) : Bool := inB s.size 1 40 && (!hasPrefix s.data.toList [32] && (!hasSuffix s.data.toList [32] && s.data.toList.all plainC))

theorem all_false {l : List UInt8} {i : Nat} (hi : i < l.length) (h : plainC l[i] = false) : l.all plainC = false := by
  rw [Bool.eq_false_iff]
  intro ht
  have := List.all_eq_true.1 ht l[i] (List.getElem_mem hi)
  rw [h] at this; cases this

set_option maxRecDepth 100000 in
set_option maxHeartbeats 4000000 in
theorem clisName_any (s : ByteArray) (w : World) (hs : s.size ≤ 1000000) :
    Calls Tryz.prog 139 #[.string s] w fun e w' => e = .returned (.bool (nameB s)) ∧ Below w.heap.size w w' := by
  have HW := Lib.hid (fun W => clwithin_any s.size 1 40 W)
  have HP := Lib.hid (fun W => Tryz.strings_HasPrefix s ⟨#[32]⟩ W)
  have HS := Lib.hid (fun W => Tryz.strings_HasSuffix s ⟨#[32]⟩ W (by omega))
  obtain ⟨r, hr⟩ : ∃ r, nameB s = r := ⟨_, rfl⟩
  rw [hr]
  unfold nameB at hr
  cases h1 : inB s.size 1 40 with
  | false =>
    rw [h1] at HW hr
    rw [Bool.false_and] at hr
    subst hr
    clear h1
    go_enter Tryz.func139, Tryz.ntmps139
    go_wp2_with fail
    refine (HW.out _).mono ?_
    rintro e w1 ⟨rfl, rfl⟩
    go_wp2
    go_ret
    exact ⟨rfl, Below.refl _ _⟩
  | true =>
    rw [h1] at HW hr
    rw [Bool.true_and] at hr
    cases h2 : hasPrefix s.data.toList [32] with
    | true =>
      rw [show (⟨#[32]⟩ : ByteArray).data.toList = [32] from rfl, h2] at HP
      rw [h2, Bool.not_true, Bool.false_and] at hr
      subst hr
      clear h1 h2
      go_enter Tryz.func139, Tryz.ntmps139
      go_wp2_with fail
      refine (HW.out _).mono ?_
      rintro e w1 ⟨rfl, rfl⟩
      go_wp2_with fail
      refine (HP.out _).mono ?_
      rintro e w1 ⟨rfl, rfl⟩
      go_wp2
      go_ret
      exact ⟨rfl, Below.refl _ _⟩
    | false =>
      rw [show (⟨#[32]⟩ : ByteArray).data.toList = [32] from rfl, h2] at HP
      rw [h2, Bool.not_false, Bool.true_and] at hr
      cases h3 : hasSuffix s.data.toList [32] with
      | true =>
        rw [show (⟨#[32]⟩ : ByteArray).data.toList = [32] from rfl, h3] at HS
        rw [h3, Bool.not_true, Bool.false_and] at hr
        subst hr
        clear h1 h2 h3
        go_enter Tryz.func139, Tryz.ntmps139
        go_wp2_with fail
        refine (HW.out _).mono ?_
        rintro e w1 ⟨rfl, rfl⟩
        go_wp2_with fail
        refine (HP.out _).mono ?_
        rintro e w1 ⟨rfl, rfl⟩
        go_wp2_with fail
        refine (HS.out _).mono ?_
        rintro e w1 ⟨rfl, rfl⟩
        go_wp2
        go_ret
        exact ⟨rfl, Below.refl _ _⟩
      | false =>
        rw [show (⟨#[32]⟩ : ByteArray).data.toList = [32] from rfl, h3] at HS
        rw [h3, Bool.not_false, Bool.true_and] at hr
        have HR := Lib.hid hr
        clear h1 h2 h3 hr
        have hsl := size_list s
        have HSL := Lib.hid hsl
        clear hsl
        go_enter Tryz.func139, Tryz.ntmps139
        go_wp2_with fail
        refine (HW.out _).mono ?_
        rintro e w1 ⟨rfl, rfl⟩
        go_wp2_with fail
        refine (HP.out _).mono ?_
        rintro e w1 ⟨rfl, rfl⟩
        go_wp2_with fail
        refine (HS.out _).mono ?_
        rintro e w1 ⟨rfl, rfl⟩
        go_wp2
        go_loopw [4] (fun _ wr => ∃ pos : Nat, wr = w1.iter s pos ∧ pos ≤ s.size ∧ Hid ((s.data.toList.take pos).all plainC = true)) (fun _ wr => s.size - wr.iterPos w1.heap.size)
        case atStart => exact ⟨0, rfl, Nat.zero_le _, Lib.hid rfl⟩
        case round =>
          obtain ⟨pos, rfl, hpos, HG⟩ := hrel
          have hbel : ∀ p, Below w1.heap.size w1 (w1.iter s p) := fun p => below_alloc w1 _
          have HBEL := Lib.hid hbel
          clear hbel
          by_cases hp : pos < s.size
          · have hlx : pos < s.data.toList.length := by rw [← HSL.out]; exact hp
            have hnx : ∀ ty, (Instr.next (.pointer (some ⟨w1.heap.size, 0, none⟩)) true ty).run Tryz.prog (w1.iter s pos) = _ := fun ty => run_next_any w1 s pos ty hp
            have hby : s[pos] = s.data.toList[pos] := rfl
            have hstep : (s.data.toList.take (pos + 1)).all plainC = ((s.data.toList.take pos).all plainC && plainC s[pos]) := by
              rw [List.take_succ_eq_append_getElem hlx, List.all_append]; simp [hby]
            have hbad : plainC s[pos] = false → r = false := fun h => by rw [← HR.out]; exact all_false hlx h
            rw [HG.out, Bool.true_and] at hstep
            have hdec : (plainC s[pos] = true ∧ Utf8.decode s pos = (s[pos].toNat, 1) ∧ 32 ≤ s[pos].toNat ∧ s[pos].toNat ≤ 126) ∨ (plainC s[pos] = false ∧ (Utf8.decode s pos).1 < 32) ∨ (plainC s[pos] = false ∧ 126 < (Utf8.decode s pos).1) := by
              unfold plainC
              by_cases ha : s[pos].toNat < 128
              · have hd := decode_ascii s pos hp ha
                by_cases h32 : s[pos].toNat < 32
                · exact Or.inr (Or.inl ⟨decide_eq_false (by omega), by rw [hd]; exact h32⟩)
                · by_cases h126 : s[pos].toNat ≤ 126
                  · exact Or.inl ⟨decide_eq_true (by omega), hd, by omega, h126⟩
                  · exact Or.inr (Or.inr ⟨decide_eq_false (by omega), by rw [hd]; show 126 < s[pos].toNat; omega⟩)
              · have hd := decode_high s pos hp (by omega)
                exact Or.inr (Or.inr ⟨decide_eq_false (by omega), by omega⟩)
            generalize plainC s[pos] = q at hstep hbad hdec
            rcases hdec with ⟨rfl, hd, hlo, hhi⟩ | ⟨rfl, hlo⟩ | ⟨rfl, hhi⟩
            · rw [hd] at hnx
              have HST := Lib.hid hstep
              have hlo2 : (32 : Int) ≤ (s[pos].toNat : Int) := by omega
              have hhi2 : (s[pos].toNat : Int) ≤ 126 := by omega
              generalize s[pos].toNat = x at *
              clear hstep hbad hd hby
              go_wp2
              go_roundw
              case rel => exact ⟨pos + 1, rfl, by omega, HST⟩
              case measure => simp; omega
            · obtain rfl := hbad rfl
              have hlo2 : ((Utf8.decode s pos).1 : Int) < 32 := by omega
              generalize (Utf8.decode s pos).1 = x at *
              generalize (Utf8.decode s pos).2 = y at *
              clear hstep hbad hby
              go_wp2
              go_ret
              exact ⟨rfl, HBEL.out _⟩
            · obtain rfl := hbad rfl
              have hlo2 : (126 : Int) < ((Utf8.decode s pos).1 : Int) := by omega
              have hlo3 : ¬ ((Utf8.decode s pos).1 : Int) < 32 := by omega
              generalize (Utf8.decode s pos).1 = x at *
              generalize (Utf8.decode s pos).2 = y at *
              clear hstep hbad hby
              go_wp2
              go_ret
              exact ⟨rfl, HBEL.out _⟩
          · obtain rfl : pos = s.size := by omega
            have hnx : ∀ ty, (Instr.next (.pointer (some ⟨w1.heap.size, 0, none⟩)) true ty).run Tryz.prog (w1.iter s s.size) = _ := fun ty => run_next_end w1 s s.size ty hp
            have hg := HG.out
            rw [HSL.out, List.take_length, HR.out] at hg
            subst hg
            go_wp2
            go_ret
            exact ⟨rfl, HBEL.out _⟩

end Go.Proofs.YtdgckdmgplpobaaGreatDoor

/- Contracts of calendar.within, Valid, checked, dateOf and Day. -/
namespace Go.Proofs.YtdgckdmgplpobaaGreatDoor
open Go.RowKit Go.Lib Go.Proofs

set_option maxHeartbeats 400000 in
theorem cwithin_any (n lo hi : Int) (w : World) :
    Calls Tryz.prog 113 #[.int .i64 n, .int .i64 lo, .int .i64 hi] w fun e w' => e = .returned (.bool (inB n lo hi)) ∧ w = w' := by
  by_cases h1 : lo ≤ n
  · by_cases h2 : n ≤ hi
    · have h : inB n lo hi = true := inB_true.2 ⟨h1, h2⟩
      rw [h]; clear h
      go_enter Tryz.func113, Tryz.ntmps113
      go_wp2
      go_ret
      exact ⟨rfl, rfl⟩
    · have h : inB n lo hi = false := inB_false.2 (fun q => h2 q.2)
      rw [h]; clear h
      go_enter Tryz.func113, Tryz.ntmps113
      go_wp2
      go_ret
      exact ⟨rfl, rfl⟩
  · have h : inB n lo hi = false := inB_false.2 (fun q => h1 q.1)
    rw [h]; clear h
    go_enter Tryz.func113, Tryz.ntmps113
    go_wp2
    go_ret
    exact ⟨rfl, rfl⟩

theorem cwithin_yes {n lo hi : Int} (w : World) (h : inB n lo hi = true) :
    Calls Tryz.prog 113 #[.int .i64 n, .int .i64 lo, .int .i64 hi] w fun e w' => e = .returned (.bool true) ∧ w = w' := by
  have := cwithin_any n lo hi w; rw [h] at this; exact this
theorem cwithin_no {n lo hi : Int} (w : World) (h : inB n lo hi = false) :
    Calls Tryz.prog 113 #[.int .i64 n, .int .i64 lo, .int .i64 hi] w fun e w' => e = .returned (.bool false) ∧ w = w' := by
  have := cwithin_any n lo hi w; rw [h] at this; exact this

def dayB (n : Int) : Bool := inB n 0 36000
theorem dayB_true {n : Int} : dayB n = true ↔ 0 ≤ n ∧ n ≤ 36000 := inB_true
theorem dayB_false {n : Int} : dayB n = false ↔ ¬ (0 ≤ n ∧ n ≤ 36000) := inB_false

theorem cValid_any (n : Int) (w : World) :
    Calls Tryz.prog 95 #[.int .i64 n] w fun e w' => e = .returned (.bool (dayB n)) ∧ w = w' := by
  go_enter Tryz.func95, Tryz.ntmps95
  go_wp2_with (go_at_call 113; refine (cwithin_any _ _ _ _).mono ?_; rintro e w' ⟨rfl, rfl⟩)
  go_ret
  exact ⟨rfl, rfl⟩
theorem cValid_yes {n : Int} (w : World) (h : dayB n = true) :
    Calls Tryz.prog 95 #[.int .i64 n] w fun e w' => e = .returned (.bool true) ∧ w = w' := by
  have := cValid_any n w; rw [h] at this; exact this
theorem cValid_no {n : Int} (w : World) (h : dayB n = false) :
    Calls Tryz.prog 95 #[.int .i64 n] w fun e w' => e = .returned (.bool false) ∧ w = w' := by
  have := cValid_any n w; rw [h] at this; exact this

def checkedI (n : Int) : Int × Int := if dayB n = true then (n, 0) else (0, 2)

theorem cchecked_any (n : Int) (w : World) :
    Calls Tryz.prog 135 #[.int .i64 n] w fun e w' => e = .returned (.tuple #[.int .i64 (checkedI n).1, .int .i64 (checkedI n).2]) ∧ w = w' := by
  cases h : dayB n with
  | true =>
    have hc : checkedI n = (n, 0) := by unfold checkedI; rw [if_pos h]
    rw [hc]; clear hc
    have H := Lib.hid h
    clear h
    go_enter Tryz.func135, Tryz.ntmps135
    go_wp2_with (go_at_call 95; refine (cValid_yes _ H.out).mono ?_; rintro e w' ⟨rfl, rfl⟩)
    go_ret2
    exact ⟨rfl, rfl⟩
  | false =>
    have hc : checkedI n = (0, 2) := by unfold checkedI; rw [h]; rfl
    rw [hc]; clear hc
    have H := Lib.hid h
    clear h
    go_enter Tryz.func135, Tryz.ntmps135
    go_wp2_with (go_at_call 95; refine (cValid_no _ H.out).mono ?_; rintro e w' ⟨rfl, rfl⟩)
    go_ret2
    exact ⟨rfl, rfl⟩

theorem dateOf_any (d : Int) (w : World) (h0 : 0 ≤ d) (h1 : d ≤ 36000) :
    Calls Tryz.prog 96 #[.int .i64 d] w fun e w' => e = .returned (.agg #[.int .i64 (d / 360), .int .i64 (d % 360 / 30 + 1), .int .i64 (d % 30 + 1)]) ∧ Below w.heap.size w w' := by
  go_enter Tryz.func96, Tryz.ntmps96
  go_wp2
  exact bodyPost_ret (v := .agg #[.int .i64 (d / 360), .int .i64 (d % 360 / 30 + 1), .int .i64 (d % 30 + 1)]) (by simp [results, Tryz.results96, go_sem]) rfl ⟨rfl, by first | exact (Below.refl _ _).alloc (Nat.le_refl _) _ | exact (((Below.refl _ _).alloc (Nat.le_refl _) _).setCell (by simp) _)⟩

def dayI (y m d : Int) : Int × Int := if (inB y 0 100 && inB m 1 12 && inB d 1 30) = true then checkedI (y * 360 + (m - 1) * 30 + d - 1) else (0, 2)

set_option maxHeartbeats 1000000 in
theorem cDay_any (y m d : Int) (w : World) :
    Calls Tryz.prog 123 #[.int .i64 y, .int .i64 m, .int .i64 d] w fun e w' => e = .returned (.tuple #[.int .i64 (dayI y m d).1, .int .i64 (dayI y m d).2]) ∧ w = w' := by
  obtain ⟨p, hp⟩ : ∃ p, p = (dayI y m d).1 := ⟨_, rfl⟩
  obtain ⟨q, hq⟩ : ∃ q, q = (dayI y m d).2 := ⟨_, rfl⟩
  rw [← hp, ← hq]
  unfold dayI at hp hq
  cases ha : inB y 0 100 with
  | false =>
    rw [ha] at hp hq
    simp only [Bool.false_and, Bool.false_eq_true, if_false] at hp hq
    subst hp hq
    have HA := Lib.hid ha
    clear ha
    go_enter Tryz.func123, Tryz.ntmps123
    go_wp2_with fail
    refine (cwithin_no _ HA.out).mono ?_
    rintro e w' ⟨rfl, rfl⟩
    go_wp2_with fail
    go_ret2
    exact ⟨rfl, rfl⟩
  | true =>
    obtain ⟨y0, y1⟩ := inB_true.1 ha
    have HA := Lib.hid ha
    cases hb : inB m 1 12 with
    | false =>
      rw [ha, hb] at hp hq
      simp only [Bool.and_false, Bool.false_and, Bool.false_eq_true, if_false] at hp hq
      subst hp hq
      have HB := Lib.hid hb
      clear ha hb
      go_enter Tryz.func123, Tryz.ntmps123
      go_wp2_with fail
      refine (cwithin_yes _ HA.out).mono ?_
      rintro e w' ⟨rfl, rfl⟩
      go_wp2_with fail
      refine (cwithin_no _ HB.out).mono ?_
      rintro e w' ⟨rfl, rfl⟩
      go_wp2_with fail
      go_ret2
      exact ⟨rfl, rfl⟩
    | true =>
      obtain ⟨m0, m1⟩ := inB_true.1 hb
      have HB := Lib.hid hb
      cases hc : inB d 1 30 with
      | false =>
        rw [ha, hb, hc] at hp hq
        simp only [Bool.and_false, Bool.false_eq_true, if_false] at hp hq
        subst hp hq
        have HC := Lib.hid hc
        clear ha hb hc
        go_enter Tryz.func123, Tryz.ntmps123
        go_wp2_with fail
        refine (cwithin_yes _ HA.out).mono ?_
        rintro e w' ⟨rfl, rfl⟩
        go_wp2_with fail
        refine (cwithin_yes _ HB.out).mono ?_
        rintro e w' ⟨rfl, rfl⟩
        go_wp2_with fail
        refine (cwithin_no _ HC.out).mono ?_
        rintro e w' ⟨rfl, rfl⟩
        go_wp2_with fail
        go_ret2
        exact ⟨rfl, rfl⟩
      | true =>
        obtain ⟨d0, d1⟩ := inB_true.1 hc
        have HC := Lib.hid hc
        rw [ha, hb, hc] at hp hq
        simp only [Bool.and_self, if_true] at hp hq
        have HP := Lib.hid hp
        have HQ := Lib.hid hq
        clear ha hb hc hp hq
        go_enter Tryz.func123, Tryz.ntmps123
        go_wp2_with fail
        refine (cwithin_yes _ HA.out).mono ?_
        rintro e w' ⟨rfl, rfl⟩
        go_wp2_with fail
        refine (cwithin_yes _ HB.out).mono ?_
        rintro e w' ⟨rfl, rfl⟩
        go_wp2_with fail
        refine (cwithin_yes _ HC.out).mono ?_
        rintro e w' ⟨rfl, rfl⟩
        go_wp2_with fail
        refine (cchecked_any _ _).mono ?_
        rw [← HP.out, ← HQ.out]
        rintro e w' ⟨rfl, rfl⟩
        go_wp2_with fail
        go_ret2
        exact ⟨rfl, rfl⟩

theorem checked_yes {n : Int} (h : dayB n = true) : checkedI n = (n, 0) := by unfold checkedI; rw [if_pos h]
end Go.Proofs.YtdgckdmgplpobaaGreatDoor

/- Contracts of calendar's functions that make the text of a day; for every day (the year 100 reads the table of the powers of ten as the program's text lays it). -/
namespace Go.Proofs.YtdgckdmgplpobaaGreatDoor
open Go.RowKit Go.Lib Go.Proofs

def twoB (n : Nat) : ByteArray := ⟨#[UInt8.ofNat (48 + n / 10), UInt8.ofNat (48 + n % 10)]⟩
theorem twoB_small (n : Nat) (h : n < 10) : (⟨#[48]⟩ : ByteArray) ++ decB n = twoB n := by
  have e1 : n / 10 = 0 := by omega
  have e2 : n % 10 = n := by omega
  unfold decB twoB
  rw [dec_one n h, e1, e2]
  rfl
theorem twoB_big (n : Nat) (h : 10 ≤ n) (h1 : n < 100) : decB n = twoB n := by unfold decB twoB; rw [dec_two n h h1]

theorem twoB_size (n : Nat) : (twoB n).size = 2 := rfl

theorem ctwo_any (n : Nat) (w : World) (h : n < 100) :
    Calls Tryz.prog 97 #[.int .i64 (n : Int)] w fun e w' => e = .returned (.string (twoB n)) ∧ w = w' := by
  have HI := Lib.hid (itoa_small n w h)
  have hsz := decB_size n (by omega)
  by_cases h10 : n < 10
  · have hlt : (n : Int) < 10 := by omega
    have HT := Lib.hid (twoB_small n h10)
    go_enter Tryz.func97, Tryz.ntmps97
    go_wp2_with fail
    refine (HI.out).mono ?_
    rintro e w' ⟨rfl, rfl⟩
    go_wp2_with fail
    go_ret
    exact ⟨by rw [← HT.out]; rfl, rfl⟩
  · have hge : (10 : Int) ≤ n := by omega
    have HT := Lib.hid (twoB_big n (by omega) h)
    go_enter Tryz.func97, Tryz.ntmps97
    go_wp2_with fail
    refine (HI.out).mono ?_
    rintro e w' ⟨rfl, rfl⟩
    go_wp2_with fail
    go_ret
    exact ⟨by rw [← HT.out]; rfl, rfl⟩

def textB (y m k : Nat) : ByteArray := decB y ++ ⟨#[45]⟩ ++ twoB m ++ ⟨#[45]⟩ ++ twoB k

def TInv (w : World) (b : Nat) (y m k : Nat) (W : World) : Prop := Below w.heap.size w W ∧ w.heap.size ≤ b ∧ b < W.heap.size ∧ W.cell? ⟨b, 0, none⟩ = some (.int .i64 (y : Int)) ∧ W.cell? ⟨b, 1, none⟩ = some (.int .i64 (m : Int)) ∧ W.cell? ⟨b, 2, none⟩ = some (.int .i64 (k : Int))

theorem TInv.below {w : World} {b y m k : Nat} {W W' : World} (h : TInv w b y m k W) (hb : Below W.heap.size W W') : TInv w b y m k W' := by
  obtain ⟨h1, h2, h3, h4, h5, h6⟩ := h
  exact ⟨h1.trans (hb.mono h1.size), h2, Nat.lt_of_lt_of_le h3 hb.size, by rw [hb.cell (by exact h3)]; exact h4, by rw [hb.cell (by exact h3)]; exact h5, by rw [hb.cell (by exact h3)]; exact h6⟩

theorem TInv.both {w : World} {b y m k : Nat} {W : World} (h : TInv w b y m k W) : TInv w b y m k W ∧ W.cell? ⟨b, 0, none⟩ = some (.int .i64 (y : Int)) ∧ W.cell? ⟨b, 1, none⟩ = some (.int .i64 (m : Int)) ∧ W.cell? ⟨b, 2, none⟩ = some (.int .i64 (k : Int)) := ⟨h, h.2.2.2.1, h.2.2.2.2.1, h.2.2.2.2.2⟩
theorem TInv.bothDrew {w : World} {b y m k : Nat} {W : World} (h : TInv w b y m k W) : TInv w b y m k W.drew ∧ W.drew.cell? ⟨b, 0, none⟩ = some (.int .i64 (y : Int)) ∧ W.drew.cell? ⟨b, 1, none⟩ = some (.int .i64 (m : Int)) ∧ W.drew.cell? ⟨b, 2, none⟩ = some (.int .i64 (k : Int)) := TInv.both (h.below ((Below.refl _ _).drew))

theorem itoa_text {w : World} {b y m k : Nat} {W : World} (hi : ItoaAt w y) (h : TInv w b y m k W) : Calls Tryz.prog 41 #[.int .i64 (y : Int)] W fun e w' => e = .returned (.string (decB y)) ∧ TInv w b y m k w' :=
  (hi W h.1).mono fun _ _ ⟨h1, h2⟩ => ⟨h1, h.below h2⟩

set_option maxHeartbeats 400000 in
theorem cText_any (d y m k : Nat) (w : World) (hd : d ≤ 36000) (hy : d / 360 = y) (hm : d % 360 / 30 + 1 = m) (hk : d % 30 + 1 = k) (hi : ItoaAt w y) :
    Calls Tryz.prog 73 #[.int .i64 (d : Int)] w fun e w' => e = .returned (.string (textB y m k)) ∧ Below w.heap.size w w' := by
  have hm1 : m < 100 := by omega
  have hk1 : k < 100 := by omega
  have HV := Lib.hid (cValid_yes w (dayB_true.2 ⟨by omega, by omega⟩ : dayB (d : Int) = true))
  have hD := dateOf_any (d : Int) w (by omega) (by omega)
  rw [show (d : Int) / 360 = (y : Int) by omega, show (d : Int) % 360 / 30 + 1 = (m : Int) by omega, show (d : Int) % 30 + 1 = (k : Int) by omega] at hD
  have HD := Lib.hid hD
  have HI := Lib.hid hi
  have hsy := decB_size y (by omega)
  have hsm := twoB_size m
  have hsk := twoB_size k
  have a1 : ¬ 9223372036854775807 < (decB y).size + 1 := by omega
  have a2 : ¬ 9223372036854775807 < (decB y).size + 1 + 2 := by omega
  have a3 : ¬ 9223372036854775807 < (decB y).size + 1 + 2 + 1 := by omega
  have a4 : ¬ 9223372036854775807 < (decB y).size + 1 + 2 + 1 + 2 := by omega
  have hC := fun (W : World) => ctwo_any m W hm1
  have hC' := fun (W : World) => ctwo_any k W hk1
  have HC := Lib.hid hC
  have HC' := Lib.hid hC'
  clear hD hy hm hk hi hd hm1 hk1 hC hC'
  go_enter Tryz.func73, Tryz.ntmps73
  go_wp2_with fail
  refine (HV.out).mono ?_
  rintro e w' ⟨rfl, rfl⟩
  go_wp2_with fail
  refine (HD.out).mono ?_
  rintro e w1 ⟨rfl, hb1⟩
  go_wp2_with fail
  have hinv : TInv w w1.heap.size y m k (w1.alloc (.cells #[.int .i64 (y : Int), .int .i64 (m : Int), .int .i64 (k : Int)] 115)) :=
    ⟨hb1.alloc hb1.size _, hb1.size, by simp, by simp, by simp, by simp⟩
  have HINV := Lib.hid hinv
  clear hinv hb1
  go_region_held3 (fun W => TInv w w1.heap.size y m k W ∧ W.cell? ⟨w1.heap.size, 0, none⟩ = some (.int .i64 (y : Int)) ∧ W.cell? ⟨w1.heap.size, 1, none⟩ = some (.int .i64 (m : Int)) ∧ W.cell? ⟨w1.heap.size, 2, none⟩ = some (.int .i64 (k : Int))) (first | exact TInv.both HINV.out | exact TInv.bothDrew HINV.out | exact TInv.both (by assumption))
    (first | (go_at_call 97; (first | (with_reducible refine (HC.out _).mono ?_) | (with_reducible refine (HC'.out _).mono ?_)); rintro e w' ⟨rfl, rfl⟩) | (go_at_call 41; refine (itoa_text (w := w) (b := w1.heap.size) (m := m) (k := k) HI.out (And.left (by assumption))).mono ?_; rintro e w' ⟨rfl, hinv'⟩))
  go_wp2_with fail
  go_ret
  rename_i hheld
  exact ⟨rfl, hheld.1.1⟩

set_option maxHeartbeats 400000 in
theorem rctwo_any (n : Nat) (w : World) (h : n < 100) :
    Calls Tryz.prog 62 #[.int .i64 (n : Int)] w fun e w' => e = .returned (.string (twoB n)) ∧ Below w.heap.size w w' := by
  obtain ⟨p, hp⟩ : ∃ p, p = n / 10 := ⟨_, rfl⟩
  obtain ⟨q, hq⟩ : ∃ q, q = n % 10 := ⟨_, rfl⟩
  have hp1 : (p : Int) < 10 := by omega
  have hq1 : (q : Int) < 10 := by omega
  have e1 : (n : Int) / 10 = p := by omega
  have e2 : (n : Int) % 10 = q := by omega
  have w1 : IntKind.u8.wrap (48 + (p : Int)) = 48 + p := IntWalk.u8_in _ (by omega)
  have w2 : IntKind.u8.wrap (48 + (q : Int)) = 48 + q := IntWalk.u8_in _ (by omega)
  have hs : strOfNums [48 + (p : Int), 48 + (q : Int)] = twoB n := by
    unfold strOfNums twoB
    rw [← hp, ← hq]
    rfl
  have hcv := run_convert_bytes_arg (P := Tryz.prog) (w.alloc (.cells #[.int .u8 (48 + p), .int .u8 (48 + q)] 5)) 96 5 Tryz.underlying96 Tryz.underlying5 w.heap.size 0 2 2 [48 + (p : Int), 48 + (q : Int)] rfl (fun i hi => by
    have : i = 0 ∨ i = 1 := by omega
    rcases this with rfl | rfl <;> simp) 9 Tryz.underlying9
  rw [hs] at hcv
  clear hp hq hs
  go_enter Tryz.func62, Tryz.ntmps62
  go_wp2
  go_ret
  exact ⟨rfl, by first | exact (Below.refl _ _).alloc (Nat.le_refl _) _ | exact ((Below.refl _ _).alloc (Nat.le_refl _) _).drew | exact below_drewN ((Below.refl _ _).alloc (Nat.le_refl _) _) _⟩

end Go.Proofs.YtdgckdmgplpobaaGreatDoor

/- Plain mathematics of the texts of days: cutting at the minus signs, reading the numbers; of no program; no condition. -/
namespace Go.Proofs.YtdgckdmgplpobaaGreatDoor
open Go.RowKit Go.Lib Go.Proofs
def twoL (n : Nat) : List UInt8 := [UInt8.ofNat (48 + n / 10), UInt8.ofNat (48 + n % 10)]
theorem two_digits (n : Nat) (h : n < 100) : ∀ c ∈ twoL n, digitB c = true := by
  intro c hc
  simp only [twoL, List.mem_cons, List.mem_nil_iff, or_false] at hc
  rcases hc with rfl | rfl <;> exact digit_ofNat _ (by omega)

theorem no_minus {l : List UInt8} (h : ∀ c ∈ l, digitB c = true) : (45 : UInt8) ∉ l := fun hm => by
  have := h 45 hm
  revert this
  decide

theorem textB_list (y m k : Nat) : (textB y m k).data.toList = decDigits y ++ 45 :: (twoL m ++ 45 :: twoL k) := by
  unfold textB decB twoB twoL
  simp [ByteArray.data_append]

theorem indexByte_at : ∀ (l r : List UInt8), (45 : UInt8) ∉ l → indexByte (l ++ 45 :: r) 45 = l.length
  | [], r, _ => by simp [indexByte]
  | c :: l, r, h => by
    have hc : c ≠ 45 := fun e => h (by simp [e])
    have := indexByte_at l r (fun hm => h (by simp [hm]))
    simp only [List.cons_append, indexByte]
    rw [this]
    simp [hc]
theorem indexByte_no : ∀ (l : List UInt8), (45 : UInt8) ∉ l → indexByte l 45 = -1
  | [], _ => by simp [indexByte]
  | c :: l, h => by
    have hc : c ≠ 45 := fun e => h (by simp [e])
    have := indexByte_no l (fun hm => h (by simp [hm]))
    simp only [indexByte]
    rw [this]
    simp [hc]

theorem split_three (a b c : List UInt8) (ha : (45 : UInt8) ∉ a) (hb : (45 : UInt8) ∉ b) (hc : (45 : UInt8) ∉ c) : splitK [45] 0 3 (a ++ 45 :: (b ++ 45 :: c)) = [a, b, c] := by
  have e1 : index (a ++ 45 :: (b ++ 45 :: c)) [45] = a.length := by rw [index_one, indexByte_at _ _ ha]
  have e2 : index (b ++ 45 :: c) [45] = b.length := by rw [index_one, indexByte_at _ _ hb]
  have e3 : index c [45] = -1 := by rw [index_one, indexByte_no _ hc]
  have n1 : ∀ n : Nat, ((n : Int) == -1) = false := fun n => by rw [beq_eq_false_iff_ne]; omega
  rw [splitK, e1, n1, if_neg (by simp), splitK]
  have d1 : (a ++ 45 :: (b ++ 45 :: c)).drop ((a.length : Int).toNat + [(45 : UInt8)].length) = b ++ 45 :: c := by simp
  rw [d1, e2, n1, if_neg (by simp), splitK]
  have d2 : (b ++ 45 :: c).drop ((b.length : Int).toNat + [(45 : UInt8)].length) = c := by simp
  rw [d2, e3]
  simp

theorem atoi_twoL (n : Nat) (h : n < 100) : atoiAll (twoL n) = .ok (n : Int) := by
  unfold twoL
  rw [atoi_two _ _ (by omega) (by omega)]; congr 2; omega

def dayText (d : Nat) : ByteArray := textB (d / 360) (d % 360 / 30 + 1) (d % 30 + 1)

theorem dayText_list (d : Nat) : (dayText d).data.toList = decDigits (d / 360) ++ 45 :: (twoL (d % 360 / 30 + 1) ++ 45 :: twoL (d % 30 + 1)) := textB_list _ _ _

theorem dayText_inj {d e : Nat} (hd : d ≤ 36000) (he : e ≤ 36000) (h : dayText d = dayText e) : d = e := by
  have h1 := congrArg (fun s : ByteArray => splitK [45] 0 3 s.data.toList) h
  simp only [dayText_list] at h1
  have nm : ∀ n, n < 1000 → (45 : UInt8) ∉ decDigits n := fun n hn => no_minus (dec_digits n hn)
  have nt : ∀ n, n < 100 → (45 : UInt8) ∉ twoL n := fun n hn => no_minus (two_digits n hn)
  rw [split_three _ _ _ (nm _ (by omega)) (nt _ (by omega)) (nt _ (by omega)), split_three _ _ _ (nm _ (by omega)) (nt _ (by omega)) (nt _ (by omega))] at h1
  simp only [List.cons.injEq, and_true] at h1
  obtain ⟨a, b, c⟩ := h1
  have a' := congrArg atoiAll a
  have b' := congrArg atoiAll b
  have c' := congrArg atoiAll c
  rw [atoi_dec _ (by omega), atoi_dec _ (by omega)] at a'
  rw [atoi_twoL _ (by omega), atoi_twoL _ (by omega)] at b' c'
  injection a' with a'
  injection b' with b'
  injection c' with c'
  omega

def leadGo : List UInt8 → Nat → Nat → Nat
  | c :: r, f + 1, n => if digitB c = true then leadGo r f (10 * n + (c.toNat - 48)) else n
  | _, _, n => n

theorem lead_dec (n : Nat) (h : n < 1000) (r : List UInt8) : leadGo (decDigits n ++ 45 :: r) 4 0 = n := by
  have hm : digitB 45 = false := by decide
  have hd : ∀ m, m < 10 → digitB (UInt8.ofNat (48 + m)) = true := digit_ofNat
  rw [dec_cases n h]
  split
  · simp only [List.cons_append, List.nil_append, leadGo, hm]
    rw [if_pos (hd _ (by omega)), ofNat_toNat _ (by omega)]
    simp
  · split
    · simp only [List.cons_append, List.nil_append, leadGo, hm]
      rw [if_pos (hd _ (by omega)), if_pos (hd _ (by omega)), ofNat_toNat _ (by omega), ofNat_toNat _ (by omega)]
      simp
      omega
    · simp only [List.cons_append, List.nil_append, leadGo, hm]
      rw [if_pos (hd _ (by omega)), if_pos (hd _ (by omega)), if_pos (hd _ (by omega)), ofNat_toNat _ (by omega), ofNat_toNat _ (by omega), ofNat_toNat _ (by omega)]
      simp
      omega

theorem lead_day (d : Nat) (h : d ≤ 36000) : leadGo (dayText d).data.toList 4 0 = d / 360 := by
  rw [dayText_list]; exact lead_dec _ (by omega) _

end Go.Proofs.YtdgckdmgplpobaaGreatDoor

/- Plain mathematics of articles: their forms, what a part of a form writes and reads, the text of an article and the article of a text; of no function of the program; no condition. -/
namespace Go.Proofs.YtdgckdmgplpobaaGreatDoor
open Go.RowKit Go.Lib Go.Proofs

structure Art where
  kind : Int
  code : ByteArray
  other : ByteArray
  name : ByteArray
  year : Int
  amount : Int
  percent : Int
  number : Int
  day : Int
  least : Int
  what : Int

def Art.none : Art := ⟨0, ⟨#[]⟩, ⟨#[]⟩, ⟨#[]⟩, 0, 0, 0, 0, 0, 0, 0⟩

def Art.cells (a : Art) : Array Value := #[.int .i64 a.kind, .string a.code, .string a.other, .string a.name, .int .i64 a.year, .int .i64 a.amount, .int .i64 a.percent, .int .i64 a.number, .int .i64 a.day, .int .i64 a.least, .int .i64 a.what]

inductive Fd where
  | code
  | other
  | name
  | year
  | span
  | amount
  | limit
  | least
  | percent
  | number
  | count
  | day
  | lit (w : ByteArray)

def Fd.text : Fd → ByteArray
  | .code => ⟨#[67, 79, 68, 69]⟩
  | .other => ⟨#[79, 84, 72, 69, 82]⟩
  | .name => ⟨#[78, 65, 77, 69]⟩
  | .year => ⟨#[89, 69, 65, 82]⟩
  | .span => ⟨#[83, 80, 65, 78]⟩
  | .amount => ⟨#[65, 77, 79, 85, 78, 84]⟩
  | .limit => ⟨#[76, 73, 77, 73, 84]⟩
  | .least => ⟨#[76, 69, 65, 83, 84]⟩
  | .percent => ⟨#[80, 69, 82, 67, 69, 78, 84]⟩
  | .number => ⟨#[78, 85, 77, 66, 69, 82]⟩
  | .count => ⟨#[67, 79, 85, 78, 84]⟩
  | .day => ⟨#[68, 65, 89]⟩
  | .lit w => w

def allT : ByteArray := ⟨#[97, 108, 108]⟩
def noneT : ByteArray := ⟨#[110, 111, 110, 101]⟩

def numOr (n : Int) (w : ByteArray) : ByteArray := if n = -1 then w else itoaT n
def dayT (d : Int) : ByteArray := if dayB d = true then dayText d.toNat else ⟨#[]⟩

def wordOf (a : Art) : Fd → ByteArray
  | .code => a.code
  | .other => a.other
  | .name => a.name
  | .year => itoaT a.year
  | .span => numOr a.year allT
  | .amount => itoaT a.amount
  | .limit => numOr a.amount noneT
  | .least => itoaT a.least
  | .percent => itoaT a.percent
  | .number => itoaT a.number
  | .count => itoaT a.number
  | .day => dayT a.day
  | .lit w => w

noncomputable def numI (w : ByteArray) : Int := match numT w with
  | some u => u
  | .none => 0
noncomputable def inN (w : ByteArray) (lo hi : Int) : Bool := (numT w).isSome && (decide (lo ≤ numI w) && decide (numI w ≤ hi))
noncomputable def orI (w : ByteArray) (instead : ByteArray) : Int := if w = instead then -1 else numI w
noncomputable def inOr (w : ByteArray) (hi : Int) (instead : ByteArray) : Bool := decide (w = instead) || inN w 0 hi
open Classical in
noncomputable def dayI' (w : ByteArray) : Int := if h : ∃ d : Nat, d ≤ 36000 ∧ dayText d = w then ((Classical.choose h : Nat) : Int) else 0
open Classical in
noncomputable def inDay (w : ByteArray) : Bool := decide (∃ d : Nat, d ≤ 35990 ∧ dayText d = w)

noncomputable def takeOf (a : Art) : Fd → ByteArray → Art × Bool
  | .code, w => ({ a with code := w }, isCodeB w)
  | .other, w => ({ a with other := w }, isCodeB w)
  | .name, w => ({ a with name := w }, nameB w)
  | .year, w => ({ a with year := numI w }, inN w 0 99)
  | .span, w => ({ a with year := orI w allT }, inOr w 99 allT)
  | .amount, w => ({ a with amount := numI w }, inN w 0 1000000000000)
  | .limit, w => ({ a with amount := orI w noneT }, inOr w 1000000000000 noneT)
  | .least, w => ({ a with least := numI w }, inN w 0 1000000000000)
  | .percent, w => ({ a with percent := numI w }, inN w 0 100)
  | .number, w => ({ a with number := numI w }, inN w 1 1000000)
  | .count, w => ({ a with number := numI w }, inN w 1 4)
  | .day, w => ({ a with day := dayI' w }, inDay w)
  | .lit v, w => (a, decide (w = v))

noncomputable def readGo : Art → List Fd → List ByteArray → Option Art
  | a, [], _ => some a
  | _, _ :: _, [] => .none
  | a, f :: fs, w :: ws => if (takeOf a f w).2 = true then readGo (takeOf a f w).1 fs ws else .none

structure Form where
  kind : Int
  what : Int
  parts : List Fd

def Form.text (f : Form) : ByteArray := txt (joinL 32 (f.parts.map fun p => p.text.data.toList))

def litW (l : List UInt8) : Fd := .lit (txt l)

def formsL : List Form := [
  ⟨1, 0, [litW [121, 101, 97, 114, 115], .year, .count]⟩,
  ⟨2, 0, [litW [104, 101, 97, 100, 105, 110, 103], .code, .name]⟩,
  ⟨3, 0, [litW [108, 105, 110, 101], .code, .year, .amount]⟩,
  ⟨4, 0, [litW [99, 101, 105, 108, 105, 110, 103], .code, .span, .amount]⟩,
  ⟨5, 0, [litW [102, 108, 111, 111, 114], .code, .span, .amount]⟩,
  ⟨6, 0, [litW [101, 97, 114, 109, 97, 114, 107], .other, .code, .percent]⟩,
  ⟨7, 0, [litW [119, 97, 105, 116], .code, .year, .amount, .day]⟩,
  ⟨8, 0, [litW [114, 101, 97, 99, 104], .code, .year, .amount, .other, .least]⟩,
  ⟨9, 0, [litW [114, 117, 108, 101], .number, .code, .other, .percent]⟩,
  ⟨10, 1, [litW [97, 109, 101, 110, 100], .day, .number, litW [108, 105, 110, 101], .code, .year, .amount]⟩,
  ⟨10, 2, [litW [97, 109, 101, 110, 100], .day, .number, litW [99, 101, 105, 108, 105, 110, 103], .code, .span, .limit]⟩,
  ⟨10, 3, [litW [97, 109, 101, 110, 100], .day, .number, litW [102, 108, 111, 111, 114], .code, .span, .amount]⟩]

def formB (a : Art) (f : Form) : Bool := decide (f.kind = a.kind) && decide (f.what = a.what)
def formOf (a : Art) : Option Form := formsL.find? (formB a)

def writeOf (f : Form) (a : Art) : ByteArray := txt (joinL 32 (f.parts.map fun p => (wordOf a p).data.toList))
noncomputable def readOf (f : Form) (t : ByteArray) : Option Art := readGo { Art.none with kind := f.kind, what := f.what } f.parts ((cutK (f.parts.length - 1) t.data.toList).map txt)

open Classical in
noncomputable def textA (a : Art) : ByteArray := match formOf a with
  | .none => ⟨#[]⟩
  | some f => if readOf f (writeOf f a) = some a then writeOf f a else ⟨#[]⟩
noncomputable def parseA (t : ByteArray) : Option Art := formsL.findSome? fun f => readOf f t

end Go.Proofs.YtdgckdmgplpobaaGreatDoor

/- What reading the parts of a form leaves as it was: the fields that the form does not use. -/
namespace Go.Proofs.YtdgckdmgplpobaaGreatDoor
open Go.RowKit Go.Lib Go.Proofs

theorem readGo_keep {α : Type} (g : Art → α) (S : Fd → Prop) (hS : ∀ a p w, S p → g (takeOf a p w).1 = g a) : ∀ (parts : List Fd) (ws : List ByteArray) (a b : Art), (∀ p ∈ parts, S p) → readGo a parts ws = some b → g b = g a
  | [], _, a, b, _, h => by
    unfold readGo at h
    rw [← Option.some.inj h]
  | p :: ps, [], a, b, _, h => by unfold readGo at h; cases h
  | p :: ps, w :: ws, a, b, hs, h => by
    unfold readGo at h
    by_cases hc : (takeOf a p w).2 = true
    · rw [if_pos hc] at h
      rw [readGo_keep g S hS ps ws _ b (fun q hq => hs q (List.mem_cons_of_mem _ hq)) h]
      exact hS a p w (hs p (by simp))
    · rw [if_neg hc] at h; cases h

theorem takeOf_code (a : Art) (w : ByteArray) : takeOf a .code w = ({ a with code := w }, isCodeB w) := rfl
theorem takeOf_other (a : Art) (w : ByteArray) : takeOf a .other w = ({ a with other := w }, isCodeB w) := rfl
theorem takeOf_name (a : Art) (w : ByteArray) : takeOf a .name w = ({ a with name := w }, nameB w) := rfl
theorem takeOf_year (a : Art) (w : ByteArray) : takeOf a .year w = ({ a with year := numI w }, inN w 0 99) := rfl
theorem takeOf_span (a : Art) (w : ByteArray) : takeOf a .span w = ({ a with year := orI w allT }, inOr w 99 allT) := rfl
theorem takeOf_amount (a : Art) (w : ByteArray) : takeOf a .amount w = ({ a with amount := numI w }, inN w 0 1000000000000) := rfl
theorem takeOf_limit (a : Art) (w : ByteArray) : takeOf a .limit w = ({ a with amount := orI w noneT }, inOr w 1000000000000 noneT) := rfl
theorem takeOf_least (a : Art) (w : ByteArray) : takeOf a .least w = ({ a with least := numI w }, inN w 0 1000000000000) := rfl
theorem takeOf_percent (a : Art) (w : ByteArray) : takeOf a .percent w = ({ a with percent := numI w }, inN w 0 100) := rfl
theorem takeOf_number (a : Art) (w : ByteArray) : takeOf a .number w = ({ a with number := numI w }, inN w 1 1000000) := rfl
theorem takeOf_count (a : Art) (w : ByteArray) : takeOf a .count w = ({ a with number := numI w }, inN w 1 4) := rfl
theorem takeOf_day (a : Art) (w : ByteArray) : ∃ x y, takeOf a .day w = ({ a with day := x }, y) := ⟨_, _, rfl⟩
theorem takeOf_lit (a : Art) (v w : ByteArray) : (takeOf a (.lit v) w).1 = a := rfl
theorem keep_kind (a : Art) (p : Fd) (w : ByteArray) : (takeOf a p w).1.kind = a.kind := by
  cases p
  case code => rw [takeOf_code]
  case other => rw [takeOf_other]
  case name => rw [takeOf_name]
  case year => rw [takeOf_year]
  case span => rw [takeOf_span]
  case amount => rw [takeOf_amount]
  case limit => rw [takeOf_limit]
  case least => rw [takeOf_least]
  case percent => rw [takeOf_percent]
  case number => rw [takeOf_number]
  case count => rw [takeOf_count]
  case day =>
    obtain ⟨x, y, e⟩ := takeOf_day a w
    rw [e]
  case lit v => rw [takeOf_lit]
theorem keep_what (a : Art) (p : Fd) (w : ByteArray) : (takeOf a p w).1.what = a.what := by
  cases p
  case code => rw [takeOf_code]
  case other => rw [takeOf_other]
  case name => rw [takeOf_name]
  case year => rw [takeOf_year]
  case span => rw [takeOf_span]
  case amount => rw [takeOf_amount]
  case limit => rw [takeOf_limit]
  case least => rw [takeOf_least]
  case percent => rw [takeOf_percent]
  case number => rw [takeOf_number]
  case count => rw [takeOf_count]
  case day =>
    obtain ⟨x, y, e⟩ := takeOf_day a w
    rw [e]
  case lit v => rw [takeOf_lit]
theorem readGo_kind {parts : List Fd} {ws : List ByteArray} {a b : Art} (h : readGo a parts ws = some b) : b.kind = a.kind ∧ b.what = a.what :=
  ⟨readGo_keep Art.kind (fun _ => True) (fun a p w _ => keep_kind a p w) parts ws a b (fun _ _ => trivial) h,
   readGo_keep Art.what (fun _ => True) (fun a p w _ => keep_what a p w) parts ws a b (fun _ _ => trivial) h⟩

theorem textA_read {a : Art} {f : Form} (hf : formOf a = some f) (ht : textA a ≠ ⟨#[]⟩) : readOf f (writeOf f a) = some a ∧ textA a = writeOf f a := by
  unfold textA at ht ⊢
  rw [hf] at ht ⊢
  simp only at ht ⊢
  by_cases h : readOf f (writeOf f a) = some a
  · exact ⟨h, if_pos h⟩
  · rw [if_neg h] at ht; exact absurd rfl ht

end Go.Proofs.YtdgckdmgplpobaaGreatDoor

/- Contracts of article.Number, readNumber, readNumberOr and numberOr: the number of up to 15 digits that a word writes; for texts of up to 10^6 bytes, in a world in which the package variables that Go's library reads are as the program's text lays them. -/
namespace Go.Proofs.YtdgckdmgplpobaaGreatDoor
open Go.RowKit Go.Lib Go.Proofs

theorem itoa_any (n : Int) (w : World) (hL : Lay w) (h0 : -9223372036854775808 ≤ n) (h1 : n ≤ 9223372036854775807) : Calls Tryz.prog 41 #[.int .i64 n] w fun e w' => e = .returned (.string (itoaT n)) ∧ Below w.heap.size w w' :=
  (Tryz.strconv_Itoa n h0 h1 w hL.pow).mono fun e w' ⟨h1, k, _, h2⟩ => ⟨h1, by rw [h2]; exact grow_below w k _⟩

def Two (w : World) (n : Int) (b : Bool) (e : Ending) (w' : World) : Prop := e = .returned (.tuple #[.int .i64 n, .bool b]) ∧ Below w.heap.size w w'

theorem numI_some {s : ByteArray} {u : Nat} (h : numT s = some u) : numI s = u := by unfold numI; rw [h]
theorem numI_none {s : ByteArray} (h : numT s = none) : numI s = 0 := by unfold numI; rw [h]
theorem numI_bd (s : ByteArray) : 0 ≤ numI s ∧ numI s < 1000000000000000 := by
  cases h : numT s with
  | none => rw [numI_none h]; omega
  | some u => have := (numT_some.1 h).1; rw [numI_some h]; omega

set_option maxHeartbeats 2000000 in
theorem arNumber_any (s : ByteArray) (w : World) (hL : Lay w) (hs : s.size ≤ 1000000) : Calls Tryz.prog 20 #[.string s] w (Two w (numI s) (numT s).isSome) := by
  by_cases hz : 15 < s.size
  · have hn : numT s = none := numT_none.2 fun u hu e => by
      have := digits_len hu
      rw [e, ← size_list] at this
      omega
    rw [numI_none hn, hn]
    have hz' : (15 : Int) < (s.size : Int) := by omega
    clear hn hL hz
    go_enter Tryz.func20, Tryz.ntmps20
    go_wp2
    go_ret2
    exact ⟨rfl, Below.refl _ _⟩
  · have hz' : (s.size : Int) ≤ 15 := by omega
    have dec : (∃ v, atoiAll s.data.toList = .ok v) ∨ ∀ v, atoiAll s.data.toList ≠ .ok v := by
      by_cases h : ∃ v, atoiAll s.data.toList = .ok v
      · exact Or.inl h
      · exact Or.inr fun v hv => h ⟨v, hv⟩
    rcases dec with ⟨v, hv⟩ | hv
    · have HA := Lib.hid (atoi_ok s v w hs hv)
      obtain ⟨hv0, hv1⟩ := atoiAll_bounds hv
      have HI : Hid (∀ W, Below w.heap.size w W → Calls Tryz.prog 41 #[.int .i64 v] W fun e w' => e = .returned (.string (itoaT v)) ∧ Below W.heap.size W w') := Lib.hid fun W hW => itoa_any v W (hL.below hW (Nat.le_refl _)) hv0 hv1
      by_cases hneg : v < 0
      · have hn : numT s = none := numT_none.2 fun u hu e => by
          rw [← e, atoi_all hu] at hv
          injection hv with hv
          omega
        rw [numI_none hn, hn]
        clear hv hn hL hz hv0 hv1
        go_enter Tryz.func20, Tryz.ntmps20
        go_wp2_with fail
        refine (HA.out).mono ?_
        rintro e w1 ⟨rfl, hb⟩
        have HB := Lib.hid hb
        clear hb
        go_wp2_with fail
        go_ret2
        exact ⟨rfl, HB.out⟩
      · obtain ⟨u, rfl⟩ : ∃ u : Nat, v = u := ⟨v.toNat, by omega⟩
        by_cases he : itoaT (u : Int) = s
        · have hul : u < 1000000000000000 := len_digits (by rw [← itoaT_nat, he, ← size_list]; omega)
          have hn : numT s = some u := by rw [← he]; exact numT_itoa hul
          have h1 := strEq_true he
          have h2 : ((itoaT (u : Int)).toList != s.toList) = false := by rw [bne, h1]; rfl
          rw [numI_some hn, hn]
          clear hv hn hL hz hv0 hv1 he hul
          generalize itoaT (u : Int) = t at *
          go_enter Tryz.func20, Tryz.ntmps20
          go_wp2_with fail
          refine (HA.out).mono ?_
          rintro e w1 ⟨rfl, hb⟩
          have HII := Lib.hid (HI.out _ hb)
          have HB := Lib.hid hb
          clear hb
          go_wp2_with fail
          refine (HII.out).mono ?_
          rintro e w2 ⟨rfl, hb2⟩
          have HB2 := Lib.hid (HB.out.trans (hb2.mono HB.out.size))
          clear hb2
          go_wp2_with fail
          go_ret2
          exact ⟨rfl, HB2.out⟩
        · have hn : numT s = none := numT_none.2 fun u' hu e => by
            rw [← e, atoi_all hu] at hv
            injection hv with hv
            have : u' = u := by omega
            subst this
            exact he (bytes_ext (by rw [itoaT_nat, e]))
          have h1 := strEq_false he
          have h2 : ((itoaT (u : Int)).toList != s.toList) = true := by rw [bne, h1]; rfl
          rw [numI_none hn, hn]
          clear hv hn hL hz hv0 hv1 he
          generalize itoaT (u : Int) = t at *
          go_enter Tryz.func20, Tryz.ntmps20
          go_wp2_with fail
          refine (HA.out).mono ?_
          rintro e w1 ⟨rfl, hb⟩
          have HII := Lib.hid (HI.out _ hb)
          have HB := Lib.hid hb
          clear hb
          go_wp2_with fail
          refine (HII.out).mono ?_
          rintro e w2 ⟨rfl, hb2⟩
          have HB2 := Lib.hid (HB.out.trans (hb2.mono HB.out.size))
          clear hb2
          go_wp2_with fail
          go_ret2
          exact ⟨rfl, HB2.out⟩
    · have hn : numT s = none := numT_none.2 fun u hu e => hv u (by rw [← e]; exact atoi_all hu)
      have HA := Lib.hid (atoi_bad s w hL hs hv)
      rw [numI_none hn, hn]
      clear hv hn hL hz
      go_enter Tryz.func20, Tryz.ntmps20
      go_wp2_with fail
      refine (HA.out).mono ?_
      rintro e w1 ⟨v, T, N, rfl, hb⟩
      have HB := Lib.hid hb
      clear hb
      go_wp2_with fail
      go_ret2
      exact ⟨rfl, HB.out⟩

set_option maxHeartbeats 1000000 in
theorem readNumber_any (s : ByteArray) (lo hi : Int) (w : World) (hL : Lay w) (hs : s.size ≤ 1000000) : Calls Tryz.prog 83 #[.string s, .int .i64 lo, .int .i64 hi] w (Two w (numI s) (inN s lo hi)) := by
  have HN := Lib.hid (arNumber_any s w hL hs)
  unfold inN
  generalize numI s = n at *
  cases hb : (numT s).isSome with
  | false =>
    rw [hb] at HN
    rw [Bool.false_and]
    clear hb hL
    go_enter Tryz.func83, Tryz.ntmps83
    go_wp2_with fail
    refine (HN.out).mono ?_
    rintro e w1 ⟨rfl, hb1⟩
    go_wp2
    go_ret2
    exact ⟨rfl, hb1⟩
  | true =>
    rw [hb] at HN
    rw [Bool.true_and]
    clear hb hL
    by_cases h1 : lo ≤ n
    · rw [decide_eq_true h1, Bool.true_and]
      by_cases h2 : n ≤ hi
      · rw [decide_eq_true h2]
        have d1 : decide (lo ≤ n) = true := decide_eq_true h1
        have d2 : decide (n ≤ hi) = true := decide_eq_true h2
        go_enter Tryz.func83, Tryz.ntmps83
        go_wp2_with fail
        refine (HN.out).mono ?_
        rintro e w1 ⟨rfl, hb1⟩
        go_wp2
        go_ret2
        exact ⟨rfl, hb1⟩
      · rw [decide_eq_false h2]
        have d1 : decide (lo ≤ n) = true := decide_eq_true h1
        have d2 : decide (n ≤ hi) = false := decide_eq_false h2
        go_enter Tryz.func83, Tryz.ntmps83
        go_wp2_with fail
        refine (HN.out).mono ?_
        rintro e w1 ⟨rfl, hb1⟩
        go_wp2
        go_ret2
        exact ⟨rfl, hb1⟩
    · rw [decide_eq_false h1, Bool.false_and]
      have d1 : decide (lo ≤ n) = false := decide_eq_false h1
      go_enter Tryz.func83, Tryz.ntmps83
      go_wp2_with fail
      refine (HN.out).mono ?_
      rintro e w1 ⟨rfl, hb1⟩
      go_wp2
      go_ret2
      exact ⟨rfl, hb1⟩

set_option maxHeartbeats 1000000 in
theorem readNumberOr_any (s : ByteArray) (hi : Int) (t : ByteArray) (w : World) (hL : Lay w) (hs : s.size ≤ 1000000) : Calls Tryz.prog 84 #[.string s, .int .i64 hi, .string t] w (Two w (orI s t) (inOr s hi t)) := by
  have HN := Lib.hid (readNumber_any s 0 hi w hL hs)
  unfold orI inOr
  by_cases he : s = t
  · have h1 := strEq_true he
    rw [if_pos he, decide_eq_true he, Bool.true_or]
    clear he hL HN
    go_enter Tryz.func84, Tryz.ntmps84
    go_wp2
    go_ret2
    exact ⟨rfl, Below.refl _ _⟩
  · have h1 := strEq_false he
    rw [if_neg he, decide_eq_false he, Bool.false_or]
    generalize numI s = n at *
    generalize inN s 0 hi = b at *
    clear he hL
    go_enter Tryz.func84, Tryz.ntmps84
    go_wp2_with fail
    refine (HN.out).mono ?_
    rintro e w1 ⟨rfl, hb1⟩
    go_wp2
    go_ret2
    exact ⟨rfl, hb1⟩

set_option maxHeartbeats 1000000 in
theorem numberOr_any (n : Int) (t : ByteArray) (w : World) (hL : Lay w) (h0 : -9223372036854775808 ≤ n) (h1 : n ≤ 9223372036854775807) : Calls Tryz.prog 72 #[.int .i64 n, .string t] w fun e w' => e = .returned (.string (numOr n t)) ∧ Below w.heap.size w w' := by
  have HI := Lib.hid (itoa_any n w hL h0 h1)
  unfold numOr
  by_cases he : n = -1
  · rw [if_pos he]
    subst he
    clear hL HI h0 h1
    go_enter Tryz.func72, Tryz.ntmps72
    go_wp2
    go_ret
    exact ⟨rfl, Below.refl _ _⟩
  · rw [if_neg he]
    have h2 : (n == -1) = false := by rw [beq_eq_false_iff_ne]; exact he
    generalize itoaT n = x at *
    clear hL h0 h1
    go_enter Tryz.func72, Tryz.ntmps72
    go_wp2_with fail
    refine (HI.out).mono ?_
    rintro e w1 ⟨rfl, hb1⟩
    go_wp2
    go_ret
    exact ⟨rfl, hb1⟩

end Go.Proofs.YtdgckdmgplpobaaGreatDoor

/- The contracts of Go's library that this seat's texts use, laid at its translation by the kit's commands; no condition beyond each contract's own. -/
namespace Go.Proofs
open Go.Shelf
def Tryz.lays156_ren : Go.Shelf.Ren := ⟨fun | 156 => 55 | 165 => 74 | 166 => 75 | 169 => 76 | 240 => 98 | 241 => 99 | 276 => 114 | 277 => 115 | n => n, fun | 31 => 37 | 9 => 9 | 3 => 3 | 4 => 4 | 0 => 0 | 20 => 20 | 72 => 98 | 76 => 77 | 70 => 95 | 37 => 96 | 75 => 76 | 127 => 117 | 164 => 131 | 5 => 5 | 80 => 100 | n => n, fun | n => n⟩
theorem Tryz.lays156 : Go.Proofs.Lays.n156 Tryz.prog Tryz.lays156_ren := {
  mixed := by kernel_rfl
  f156 := Tryz.func55.trans (congrArg some (by kernel_rfl))
  f165 := Tryz.func74.trans (congrArg some (by kernel_rfl))
  f166 := Tryz.func75.trans (congrArg some (by kernel_rfl))
  f169 := Tryz.func76.trans (congrArg some (by kernel_rfl))
  f240 := Tryz.func98.trans (congrArg some (by kernel_rfl))
  f241 := Tryz.func99.trans (congrArg some (by kernel_rfl))
  f276 := Tryz.func114.trans (congrArg some (by kernel_rfl))
  f277 := Tryz.func115.trans (congrArg some (by kernel_rfl))
  t0 := Tryz.underlying0
  a0 := Tryz.isAgg0
  z0 := Tryz.sizeOf0
  v0 := Tryz.zeroValue0
  t3 := Tryz.underlying3
  a3 := Tryz.isAgg3
  z3 := Tryz.sizeOf3
  v3 := Tryz.zeroValue3
  t4 := Tryz.underlying4
  a4 := Tryz.isAgg4
  z4 := Tryz.sizeOf4
  v4 := Tryz.zeroValue4
  t9 := Tryz.underlying9
  a9 := Tryz.isAgg9
  z9 := Tryz.sizeOf9
  v9 := Tryz.zeroValue9
  t20 := Tryz.underlying20
  a20 := Tryz.isAgg20
  z20 := Tryz.sizeOf20
  v20 := Tryz.zeroValue20
  t31 := Tryz.underlying37
  a31 := Tryz.isAgg37
  z31 := Tryz.sizeOf37
  v31 := Tryz.zeroValue37
  t37 := Tryz.underlying96
  a37 := Tryz.isAgg96
  z37 := Tryz.sizeOf96
  v37 := Tryz.zeroValue96
  t70 := Tryz.underlying95
  a70 := Tryz.isAgg95
  z70 := Tryz.sizeOf95
  v70 := Tryz.zeroValue95
  t72 := Tryz.underlying98
  a72 := Tryz.isAgg98
  z72 := Tryz.sizeOf98
  v72 := Tryz.zeroValue98
  t75 := Tryz.underlying76
  a75 := Tryz.isAgg76
  z75 := Tryz.sizeOf76
  v75 := Tryz.zeroValue76
  t76 := Tryz.underlying77
  a76 := Tryz.isAgg77
  z76 := Tryz.sizeOf77
  v76 := Tryz.zeroValue77
  t127 := Tryz.underlying117
  a127 := Tryz.isAgg117
  z127 := Tryz.sizeOf117
  v127 := Tryz.zeroValue117
  t164 := Tryz.underlying131
  a164 := Tryz.isAgg131
  z164 := Tryz.sizeOf131
  v164 := Tryz.zeroValue131 }
theorem Tryz.Builder_Extra_156 : Builder.Extra Tryz.prog Tryz.lays156_ren := {
  sizeBuilder := by kernel_rfl
  liesBuilder := by kernel_rfl
  t5 := Tryz.underlying5
  a5 := Tryz.isAgg5
  z5 := Tryz.sizeOf5
  v5 := Tryz.zeroValue5
  infoByte := by kernel_rfl
  cellsByte := by kernel_rfl
  sizeByte := by kernel_rfl
  neB5 := by decide }
open Go.RowKit in
theorem Tryz.strings_Join (bk o c : Nat) (xs : List ByteArray) (sep : ByteArray) (w : World) (hcells : ∀ (j : Nat) x, xs[j]? = some x → w.cell? ⟨bk, o + j, none⟩ = some (.string x)) (hbk : bk < w.heap.size) (hN : xs.length ≤ 140737488355328) (hcap : xs.length ≤ c) (hlen : (Lib.join (xs.map (·.data.toList)) sep.data.toList).length ≤ 140737488355328) :
    Calls Tryz.prog 55 #[.slice (some ⟨bk, o, none⟩) xs.length c, .string sep] w fun e w' => e = .returned (.string ⟨(Lib.join (xs.map (·.data.toList)) sep.data.toList).toArray⟩) ∧ Below w.heap.size w w' := Any.strings_Join Tryz.lays156 Tryz.Builder_Extra_156 bk o c xs sep w hcells hbk hN hcap hlen
def Tryz.lays138_ren : Go.Shelf.Ren := ⟨fun | 138 => 57 | 195 => 78 | 218 => 79 | 143 => 80 | 219 => 101 | 217 => 116 | 225 => 117 | 224 => 118 | 267 => 119 | 266 => 131 | 314 => 132 | n => n, fun | 9 => 9 | 3 => 3 | 4 => 4 | 5 => 5 | 0 => 0 | 46 => 126 | 146 => 150 | 51 => 139 | n => n, fun | 1 => 0 | n => n⟩
theorem Tryz.lays138 : Go.Proofs.Lays.n138 Tryz.prog Tryz.lays138_ren := {
  mixed := by kernel_rfl
  f138 := Tryz.func57.trans (congrArg some (by kernel_rfl))
  f143 := Tryz.func80.trans (congrArg some (by kernel_rfl))
  f195 := Tryz.func78.trans (congrArg some (by kernel_rfl))
  f217 := Tryz.func116.trans (congrArg some (by kernel_rfl))
  f218 := Tryz.func79.trans (congrArg some (by kernel_rfl))
  f219 := Tryz.func101.trans (congrArg some (by kernel_rfl))
  f224 := Tryz.func118.trans (congrArg some (by kernel_rfl))
  f225 := Tryz.func117.trans (congrArg some (by kernel_rfl))
  f266 := Tryz.func131.trans (congrArg some (by kernel_rfl))
  f267 := Tryz.func119.trans (congrArg some (by kernel_rfl))
  f314 := Tryz.func132.trans (congrArg some (by kernel_rfl))
  t0 := Tryz.underlying0
  a0 := Tryz.isAgg0
  z0 := Tryz.sizeOf0
  v0 := Tryz.zeroValue0
  t3 := Tryz.underlying3
  a3 := Tryz.isAgg3
  z3 := Tryz.sizeOf3
  v3 := Tryz.zeroValue3
  t4 := Tryz.underlying4
  a4 := Tryz.isAgg4
  z4 := Tryz.sizeOf4
  v4 := Tryz.zeroValue4
  t5 := Tryz.underlying5
  a5 := Tryz.isAgg5
  z5 := Tryz.sizeOf5
  v5 := Tryz.zeroValue5
  t9 := Tryz.underlying9
  a9 := Tryz.isAgg9
  z9 := Tryz.sizeOf9
  v9 := Tryz.zeroValue9
  t46 := Tryz.underlying126
  a46 := Tryz.isAgg126
  z46 := Tryz.sizeOf126
  v46 := Tryz.zeroValue126
  t51 := Tryz.underlying139
  a51 := Tryz.isAgg139
  z51 := Tryz.sizeOf139
  v51 := Tryz.zeroValue139
  t146 := Tryz.underlying150
  a146 := Tryz.isAgg150
  z146 := Tryz.sizeOf150
  v146 := Tryz.zeroValue150
  g1 := by kernel_rfl }
open Go.RowKit Go.Lib in
theorem Tryz.strings_Count_one (s : ByteArray) (c : UInt8) (w : World) :
    Calls Tryz.prog 57 #[.string s, .string ⟨#[c]⟩] w fun e w' => e = .returned (.int .i64 (Lib.countByte s.data.toList c)) ∧ w' = w := Any.strings_Count_one Tryz.lays138 s c w
def Tryz.lays147_ren : Go.Shelf.Ren := ⟨fun | 147 => 56 | 221 => 77 | 268 => 100 | 138 => 57 | 143 => 80 | 195 => 78 | 197 => 94 | 218 => 79 | 219 => 101 | 260 => 112 | 217 => 116 | 225 => 117 | 224 => 118 | 267 => 119 | 266 => 131 | 314 => 132 | n => n, fun | 9 => 9 | 3 => 3 | 31 => 37 | 4 => 4 | 0 => 0 | 105 => 112 | 21 => 21 | 5 => 5 | 46 => 126 | 119 => 146 | 139 => 149 | 138 => 148 | 146 => 150 | 51 => 139 | n => n, fun | 1 => 0 | 3 => 4 | 4 => 5 | n => n⟩
theorem Tryz.lays147 : Go.Proofs.Lays.n147 Tryz.prog Tryz.lays147_ren := {
  mixed := by kernel_rfl
  f138 := Tryz.func57.trans (congrArg some (by kernel_rfl))
  f143 := Tryz.func80.trans (congrArg some (by kernel_rfl))
  f147 := Tryz.func56.trans (congrArg some (by kernel_rfl))
  f195 := Tryz.func78.trans (congrArg some (by kernel_rfl))
  f197 := Tryz.func94.trans (congrArg some (by kernel_rfl))
  f217 := Tryz.func116.trans (congrArg some (by kernel_rfl))
  f218 := Tryz.func79.trans (congrArg some (by kernel_rfl))
  f219 := Tryz.func101.trans (congrArg some (by kernel_rfl))
  f221 := Tryz.func77.trans (congrArg some (by kernel_rfl))
  f224 := Tryz.func118.trans (congrArg some (by kernel_rfl))
  f225 := Tryz.func117.trans (congrArg some (by kernel_rfl))
  f260 := Tryz.func112.trans (congrArg some (by kernel_rfl))
  f266 := Tryz.func131.trans (congrArg some (by kernel_rfl))
  f267 := Tryz.func119.trans (congrArg some (by kernel_rfl))
  f268 := Tryz.func100.trans (congrArg some (by kernel_rfl))
  f314 := Tryz.func132.trans (congrArg some (by kernel_rfl))
  t0 := Tryz.underlying0
  a0 := Tryz.isAgg0
  z0 := Tryz.sizeOf0
  v0 := Tryz.zeroValue0
  t3 := Tryz.underlying3
  a3 := Tryz.isAgg3
  z3 := Tryz.sizeOf3
  v3 := Tryz.zeroValue3
  t4 := Tryz.underlying4
  a4 := Tryz.isAgg4
  z4 := Tryz.sizeOf4
  v4 := Tryz.zeroValue4
  t5 := Tryz.underlying5
  a5 := Tryz.isAgg5
  z5 := Tryz.sizeOf5
  v5 := Tryz.zeroValue5
  t9 := Tryz.underlying9
  a9 := Tryz.isAgg9
  z9 := Tryz.sizeOf9
  v9 := Tryz.zeroValue9
  t21 := Tryz.underlying21
  a21 := Tryz.isAgg21
  z21 := Tryz.sizeOf21
  v21 := Tryz.zeroValue21
  t31 := Tryz.underlying37
  a31 := Tryz.isAgg37
  z31 := Tryz.sizeOf37
  v31 := Tryz.zeroValue37
  t46 := Tryz.underlying126
  a46 := Tryz.isAgg126
  z46 := Tryz.sizeOf126
  v46 := Tryz.zeroValue126
  t51 := Tryz.underlying139
  a51 := Tryz.isAgg139
  z51 := Tryz.sizeOf139
  v51 := Tryz.zeroValue139
  t105 := Tryz.underlying112
  a105 := Tryz.isAgg112
  z105 := Tryz.sizeOf112
  v105 := Tryz.zeroValue112
  t119 := Tryz.underlying146
  a119 := Tryz.isAgg146
  z119 := Tryz.sizeOf146
  t138 := Tryz.underlying148
  a138 := Tryz.isAgg148
  z138 := Tryz.sizeOf148
  v138 := Tryz.zeroValue148
  t139 := Tryz.underlying149
  a139 := Tryz.isAgg149
  z139 := Tryz.sizeOf149
  v139 := Tryz.zeroValue149
  t146 := Tryz.underlying150
  a146 := Tryz.isAgg150
  z146 := Tryz.sizeOf150
  v146 := Tryz.zeroValue150
  g1 := by kernel_rfl
  g3 := by kernel_rfl
  g4 := by kernel_rfl }
open Go.RowKit Go.Lib in
theorem Tryz.strings_SplitN (s sep : ByteArray) (n : Nat) (m : Int) (w : World) (hs : s.size < 4294967281) (hm : w.cell? ⟨0, 0, none⟩ = some (.int .i64 m)) (h1 : 1 ≤ sep.size) (hn : 1 ≤ n) (hn63 : n ≤ 9223372036854775807) :
    Calls Tryz.prog 56 #[.string s, .string sep, .int .i64 n] w fun e w' =>
      e = .returned (.slice (some ⟨w.heap.size, 0, none⟩) (Lib.splitB sep 0 (min n (s.size + 1) - 1) s).length (min n (s.size + 1))) ∧ w' = w.alloc (.cells (Lib.cellsOf (Lib.splitB sep 0 (min n (s.size + 1) - 1) s) (min n (s.size + 1))) 9) := Any.strings_SplitN Tryz.lays147 (by kernel_rfl) s sep n m w hs hm h1 hn hn63
end Go.Proofs

/- Contracts of calendar.Parse: it returns the day with a text, and ErrSyntax for any other text; for texts of up to 10^6 bytes, in a world in which the package variables that Go's library reads are as the program's text lays them. -/
namespace Go.Proofs.YtdgckdmgplpobaaGreatDoor
open Go.RowKit Go.Lib Go.Proofs
def partsB (s : ByteArray) : List ByteArray := splitB ⟨#[45]⟩ 0 (min 4 (s.size + 1) - 1) s

theorem splitN_any (s : ByteArray) (w : World) (hL : Lay w) (hs : s.size ≤ 1000000) :
    Calls Tryz.prog 56 #[.string s, .string ⟨#[45]⟩, .int .i64 4] w fun e w' => e = .returned (.slice (some ⟨w.heap.size, 0, none⟩) (partsB s).length (min 4 (s.size + 1))) ∧ w' = w.alloc (.cells (cellsOf (partsB s) (min 4 (s.size + 1))) 9) := by
  obtain ⟨m, hm⟩ := hL.max
  exact Tryz.strings_SplitN s ⟨#[45]⟩ 4 m w (by omega) hm (by decide) (by omega) (by omega)

theorem parts_sizes (s : ByteArray) : ∀ p ∈ partsB s, p.size ≤ s.size := by
  have : ∀ (k : Nat) (s : ByteArray), ∀ p ∈ splitB ⟨#[45]⟩ 0 k s, p.size ≤ s.size := by
    intro k
    induction k with
    | zero => intro s p hp; rw [splitB_zero] at hp; simp at hp; subst hp; exact Nat.le_refl _
    | succ k ih =>
      intro s p hp
      rw [splitB] at hp
      split at hp
      · simp at hp; subst hp; exact Nat.le_refl _
      · rcases List.mem_cons.1 hp with rfl | hp
        · rw [ByteArray.size_extract]; omega
        · have := ih _ p hp
          rw [ByteArray.size_extract] at this; omega
  exact this _ s

def ReadPost (w : World) (r : Option (Int × Int × Int)) (e : Ending) (w' : World) : Prop :=
  (match r with
    | some (a, b, c) => e = .returned (.tuple #[.agg #[.int .i64 a, .int .i64 b, .int .i64 c], .bool true])
    | none => e = .returned (.tuple #[.agg #[.int .i64 0, .int .i64 0, .int .i64 0], .bool false])) ∧ Below w.heap.size w w'

set_option maxRecDepth 100000 in
set_option maxHeartbeats 2000000 in
theorem read_len (s : ByteArray) (w : World) (hL : Lay w) (hs : s.size ≤ 1000000) (hn : (partsB s).length ≠ 3) : Calls Tryz.prog 122 #[.string s] w (ReadPost w none) := by
  obtain ⟨n, hln⟩ : ∃ n, n = (partsB s).length := ⟨_, rfl⟩
  have hne : ((n : Int) != 3) = true := by rw [bne_iff_ne]; omega
  have hL' : ∀ o o', Lay ((w.alloc o).alloc o') := fun o o' => hL.below (((Below.refl _ _).alloc (Nat.le_refl _) o).alloc (by simp) o') (Nat.le_refl _)
  have HS := fun o o' => splitN_any s _ (hL' o o') hs
  rw [← hln] at HS
  have HSP := Lib.hid HS
  clear hL' HS hln hn hL
  go_enter Tryz.func122, Tryz.ntmps122
  go_wp2_with fail
  refine (HSP.out _ _).mono ?_
  rintro e w' ⟨rfl, rfl⟩
  go_wp2_with fail
  refine bodyPost_ret (v := .tuple #[.agg #[.int .i64 0, .int .i64 0, .int .i64 0], .bool false]) (by simp [results, Tryz.results122, go_sem]) rfl ⟨rfl, ?_⟩
  exact (((Below.refl _ _).alloc (Nat.le_refl _) _).alloc (by simp) _).alloc (by simp; omega) _

theorem cells_three (p0 p1 p2 : ByteArray) (N : Nat) : (cellsOf [p0, p1, p2] N)[0]? = some (.string p0) ∧ (cellsOf [p0, p1, p2] N)[1]? = some (.string p1) ∧ (cellsOf [p0, p1, p2] N)[2]? = some (.string p2) := by
  unfold cellsOf
  simp

structure DInv (w : World) (R D P : Nat) (p0 p1 p2 : ByteArray) (a b c : Int) (W : World) : Prop where
  r : W.heap[R]? = some (.cells #[.int .i64 0, .int .i64 0, .int .i64 0] 115 (0, 0))
  d : W.heap[D]? = some (.cells #[.int .i64 a, .int .i64 b, .int .i64 c] 115 (0, 0))
  q0 : W.cell? ⟨P, 0, none⟩ = some (.string p0)
  q1 : W.cell? ⟨P, 1, none⟩ = some (.string p1)
  q2 : W.cell? ⟨P, 2, none⟩ = some (.string p2)
  lay : Lay W
  old : Below w.heap.size w W
  hR : w.heap.size ≤ R
  hD : R < D
  hP : D < P
  hW : P < W.heap.size
  top : ∀ g ∈ layBlocks, g < w.heap.size

theorem DInv.below {w : World} {R D P : Nat} {p0 p1 p2 : ByteArray} {a b c : Int} {W W' : World} (h : DInv w R D P p0 p1 p2 a b c W) (hb : Below W.heap.size W W') : DInv w R D P p0 p1 p2 a b c W' := by
  have hD := h.hD
  have hP := h.hP
  have hW := h.hW
  exact ⟨by rw [hb.block R (by omega)]; exact h.r, by rw [hb.block D (by omega)]; exact h.d, by rw [hb.cell (by exact hW)]; exact h.q0, by rw [hb.cell (by exact hW)]; exact h.q1, by rw [hb.cell (by exact hW)]; exact h.q2, h.lay.below hb (Nat.le_refl _), h.old.trans (hb.mono h.old.size), h.hR, hD, hP, Nat.lt_of_lt_of_le hW hb.size, h.top⟩

theorem DInv.new (w : World) (p0 p1 p2 : ByteArray) (N : Nat) (hL : Lay w) :
    DInv w w.heap.size (w.heap.size + 1) (w.heap.size + 1 + 1) p0 p1 p2 0 0 0 (((w.alloc (.cells #[.int .i64 0, .int .i64 0, .int .i64 0] 115)).alloc (.cells #[.int .i64 0, .int .i64 0, .int .i64 0] 115)).alloc (.cells (cellsOf [p0, p1, p2] N) 9)) := by
  obtain ⟨c0, c1, c2⟩ := cells_three p0 p1 p2 N
  have hb : Below w.heap.size w (((w.alloc (.cells #[.int .i64 0, .int .i64 0, .int .i64 0] 115)).alloc (.cells #[.int .i64 0, .int .i64 0, .int .i64 0] 115)).alloc (.cells (cellsOf [p0, p1, p2] N) 9)) :=
    (((Below.refl _ _).alloc (Nat.le_refl _) _).alloc (by simp) _).alloc (by simp; omega) _
  have hh : ∀ (u : World) (o : Obj), (u.alloc o).heap[u.heap.size]? = some o := fun u o => heap_alloc_new u o
  have hs1 : (w.alloc (.cells #[.int .i64 0, .int .i64 0, .int .i64 0] 115)).heap.size = w.heap.size + 1 := by simp
  have hs2 : ((w.alloc (.cells #[.int .i64 0, .int .i64 0, .int .i64 0] 115)).alloc (.cells #[.int .i64 0, .int .i64 0, .int .i64 0] 115)).heap.size = w.heap.size + 1 + 1 := by simp
  have hq : ∀ j v, (cellsOf [p0, p1, p2] N)[j]? = some v → (((w.alloc (.cells #[.int .i64 0, .int .i64 0, .int .i64 0] 115)).alloc (.cells #[.int .i64 0, .int .i64 0, .int .i64 0] 115)).alloc (.cells (cellsOf [p0, p1, p2] N) 9)).cell? ⟨w.heap.size + 1 + 1, j, none⟩ = some v := fun j v hv => by
    rw [cell_of_row _ _ j (cellsOf [p0, p1, p2] N) 9 (0, 0) (by rw [← hs2]; exact hh _ _)]
    exact hv
  refine ⟨?_, ?_, hq 0 _ c0, hq 1 _ c1, hq 2 _ c2, hL.below hb (Nat.le_refl _), hb, Nat.le_refl _, by omega, by omega, by simp, hL.lt⟩
  · rw [Below.heap_alloc _ _ _ (by simp; omega), Below.heap_alloc _ _ _ (by simp)]; exact hh _ _
  · rw [Below.heap_alloc _ _ _ (by simp)]
    have := hh (w.alloc (.cells #[.int .i64 0, .int .i64 0, .int .i64 0] 115)) (.cells #[.int .i64 0, .int .i64 0, .int .i64 0] 115)
    rwa [hs1] at this

theorem DInv.put {w : World} {R D P : Nat} {p0 p1 p2 : ByteArray} {a b c a' b' c' : Int} {W : World} (h : DInv w R D P p0 p1 p2 a b c W) (j : Nat) (x : Int) (hx : (#[Value.int .i64 a, .int .i64 b, .int .i64 c] : Array Value).setIfInBounds j (.int .i64 x) = #[.int .i64 a', .int .i64 b', .int .i64 c']) :
    DInv w R D P p0 p1 p2 a' b' c' (W.setCell ⟨D, j, none⟩ (.int .i64 x)) := by
  have hD := h.hD
  have hP := h.hP
  have hW := h.hW
  have hR := h.hR
  have hother : ∀ k, k ≠ D → (W.setCell ⟨D, j, none⟩ (.int .i64 x)).heap[k]? = W.heap[k]? := fun k hk => Below.heap_setCell W _ _ k hk
  refine ⟨by rw [hother R (by omega)]; exact h.r, ?_, by rw [World.cell?_of_block (w := W) (hother P (by omega))]; exact h.q0, by rw [World.cell?_of_block (w := W) (hother P (by omega))]; exact h.q1, by rw [World.cell?_of_block (w := W) (hother P (by omega))]; exact h.q2, ?_, h.old.setCell (by show w.heap.size ≤ D; omega) _, hR, hD, hP, by rw [World.size_setCell]; exact hW, h.top⟩
  · rw [heap_setCell_same W D j _ _ _ h.d, hx]
  · exact h.lay.keep fun g hg => hother g (fun e => by
      have h0 := h.top g hg
      omega)

theorem DInv.cells {w : World} {R D P : Nat} {p0 p1 p2 : ByteArray} {a b c : Int} {W : World} (h : DInv w R D P p0 p1 p2 a b c W) :
    (W.cell? ⟨D, 0, none⟩ = some (.int .i64 a) ∧ W.cell? ⟨D, 1, none⟩ = some (.int .i64 b) ∧ W.cell? ⟨D, 2, none⟩ = some (.int .i64 c)) ∧
    (W.frozen? ⟨D, 0, none⟩ = false ∧ W.frozen? ⟨D, 1, none⟩ = false ∧ W.frozen? ⟨D, 2, none⟩ = false) ∧
    (W.cell? ⟨R, 0, none⟩ = some (.int .i64 0) ∧ W.cell? ⟨R, 1, none⟩ = some (.int .i64 0) ∧ W.cell? ⟨R, 2, none⟩ = some (.int .i64 0)) ∧
    (W.frozen? ⟨R, 0, none⟩ = false ∧ W.frozen? ⟨R, 1, none⟩ = false ∧ W.frozen? ⟨R, 2, none⟩ = false) := by
  have hd := h.d
  have hr := h.r
  simp [World.cell?, World.frozen?, hd, hr]

theorem DInv.result {w : World} {R D P : Nat} {p0 p1 p2 : ByteArray} {a b c : Int} {W : World} (h : DInv w R D P p0 p1 p2 a b c W) (x y z : Int) {F : World} (hF : F = ((W.setCell ⟨R, 0, none⟩ (.int .i64 x)).setCell ⟨R, 1, none⟩ (.int .i64 y)).setCell ⟨R, 2, none⟩ (.int .i64 z)) :
    F.cell? ⟨R, 0, none⟩ = some (.int .i64 x) ∧ F.cell? ⟨R, 1, none⟩ = some (.int .i64 y) ∧ F.cell? ⟨R, 2, none⟩ = some (.int .i64 z) ∧ Below w.heap.size w F := by
  have h1 := heap_setCell_same W R 0 _ _ (.int .i64 x) h.r
  have h2 := heap_setCell_same _ R 1 _ _ (.int .i64 y) h1
  have h3 := heap_setCell_same _ R 2 _ _ (.int .i64 z) h2
  rw [← hF] at h3
  refine ⟨by rw [cell_of_row _ _ _ _ _ _ h3]; rfl, by rw [cell_of_row _ _ _ _ _ _ h3]; rfl, by rw [cell_of_row _ _ _ _ _ _ h3]; rfl, ?_⟩
  subst hF
  exact ((h.old.setCell h.hR _).setCell h.hR _).setCell h.hR _

set_option maxRecDepth 100000 in
set_option maxHeartbeats 4000000 in
theorem read_three (s : ByteArray) (w : World) (hL : Lay w) (hs : s.size ≤ 1000000) (p0 p1 p2 : ByteArray) (hp : partsB s = [p0, p1, p2]) (a b c : Int) (h0 : atoiAll p0.data.toList = .ok a) (h1 : atoiAll p1.data.toList = .ok b) (h2 : atoiAll p2.data.toList = .ok c) : Calls Tryz.prog 122 #[.string s] w (ReadPost w (some (a, b, c))) := by
  have z := parts_sizes s
  rw [hp] at z
  have z0 : p0.size ≤ 1000000 := by have := z p0 (by simp); omega
  have z1 : p1.size ≤ 1000000 := by have := z p1 (by simp); omega
  have z2 : p2.size ≤ 1000000 := by have := z p2 (by simp); omega
  have hL' : ∀ o o', Lay ((w.alloc o).alloc o') := fun o o' => hL.below (((Below.refl _ _).alloc (Nat.le_refl _) o).alloc (by simp) o') (Nat.le_refl _)
  have HS := fun o o' => splitN_any s _ (hL' o o') hs
  rw [hp] at HS
  have HSP := Lib.hid HS
  have HINV := Lib.hid (DInv.new w p0 p1 p2 (min 4 (s.size + 1)) hL)
  have A0 := Lib.hid (fun W => atoi_ok p0 a W z0 h0)
  have A1 := Lib.hid (fun W => atoi_ok p1 b W z1 h1)
  have A2 := Lib.hid (fun W => atoi_ok p2 c W z2 h2)
  clear hL' HS hp hL z z0 z1 z2 h0 h1 h2
  go_enter Tryz.func122, Tryz.ntmps122
  go_wp2_with fail
  refine (HSP.out _ _).mono ?_
  rintro e W0 ⟨rfl, hW0⟩
  have I0 : DInv w w.heap.size (w.heap.size + 1) (w.heap.size + 1 + 1) p0 p1 p2 0 0 0 W0 := by rw [hW0]; exact HINV.out
  have HI0 := Lib.hid I0
  clear hW0 I0
  go_wp2_with fail
  refine wp_loop_rounds 4 ?_
  rw [rounds_succ]
  have q0 := HI0.out.q0
  go_wp2_with fail
  refine (A0.out _).mono ?_
  rintro e W1 ⟨rfl, hb1⟩
  have HI1 := Lib.hid (HI0.out.below hb1)
  clear hb1 q0
  obtain ⟨⟨c0, c1, c2⟩, ⟨f0, f1, f2⟩, _⟩ := HI1.out.cells
  go_wp2_with fail
  have I1 := HI1.out.put (a' := a) (b' := 0) (c' := 0) 0 a rfl
  generalize (W1.setCell ⟨w.heap.size + 1, 0, none⟩ (.int .i64 a)) = V1 at I1 ⊢
  have HJ1 := Lib.hid I1
  clear I1 HI1 HI0 c0 c1 c2 f0 f1 f2
  rw [rounds_succ]
  have q1 := HJ1.out.q1
  go_wp2_with fail
  refine (A1.out _).mono ?_
  rintro e W2 ⟨rfl, hb2⟩
  have HI2 := Lib.hid (HJ1.out.below hb2)
  clear hb2 q1
  obtain ⟨⟨c0, c1, c2⟩, ⟨f0, f1, f2⟩, _⟩ := HI2.out.cells
  go_wp2_with fail
  have I2 := HI2.out.put (a' := a) (b' := b) (c' := 0) 1 b rfl
  generalize (W2.setCell ⟨w.heap.size + 1, 1, none⟩ (.int .i64 b)) = V2 at I2 ⊢
  have HJ2 := Lib.hid I2
  clear I2 HI2 HJ1 c0 c1 c2 f0 f1 f2
  rw [rounds_succ]
  have q2 := HJ2.out.q2
  go_wp2_with fail
  refine (A2.out _).mono ?_
  rintro e W3 ⟨rfl, hb3⟩
  have HI3 := Lib.hid (HJ2.out.below hb3)
  clear hb3 q2
  obtain ⟨⟨c0, c1, c2⟩, ⟨f0, f1, f2⟩, _⟩ := HI3.out.cells
  go_wp2_with fail
  have I3 := HI3.out.put (a' := a) (b' := b) (c' := c) 2 c rfl
  generalize (W3.setCell ⟨w.heap.size + 1, 2, none⟩ (.int .i64 c)) = V3 at I3 ⊢
  have HJ3 := Lib.hid I3
  clear I3 HI3 HJ2 c0 c1 c2 f0 f1 f2
  rw [rounds_succ]
  obtain ⟨⟨c0, c1, c2⟩, ⟨f0, f1, f2⟩, ⟨r0, r1, r2⟩, ⟨e0, e1, e2⟩⟩ := HJ3.out.cells
  go_wp2_with fail
  have HR := fun F hF => HJ3.out.result a b c (F := F) hF
  generalize ((V3.setCell ⟨w.heap.size, 0, none⟩ (.int .i64 a)).setCell ⟨w.heap.size, 1, none⟩ (.int .i64 b)).setCell ⟨w.heap.size, 2, none⟩ (.int .i64 c) = F at HR ⊢
  obtain ⟨g0, g1, g2, hb⟩ := HR F rfl
  refine bodyPost_ret (v := .tuple #[.agg #[.int .i64 a, .int .i64 b, .int .i64 c], .bool true]) (by simp [results, Tryz.results122, go_sem, g0, g1, g2]) rfl ⟨rfl, hb⟩

set_option maxRecDepth 100000 in
set_option maxHeartbeats 4000000 in
theorem read_bad0 (s : ByteArray) (w : World) (hL : Lay w) (hs : s.size ≤ 1000000) (p0 p1 p2 : ByteArray) (hp : partsB s = [p0, p1, p2])  (hbad : ∀ v, atoiAll p0.data.toList ≠ .ok v) : Calls Tryz.prog 122 #[.string s] w (ReadPost w none) := by
  have z := parts_sizes s
  rw [hp] at z
  have z0 : p0.size ≤ 1000000 := by have := z p0 (by simp); omega
  have z1 : p1.size ≤ 1000000 := by have := z p1 (by simp); omega
  have z2 : p2.size ≤ 1000000 := by have := z p2 (by simp); omega
  have hL' : ∀ o o', Lay ((w.alloc o).alloc o') := fun o o' => hL.below (((Below.refl _ _).alloc (Nat.le_refl _) o).alloc (by simp) o') (Nat.le_refl _)
  have HS := fun o o' => splitN_any s _ (hL' o o') hs
  rw [hp] at HS
  have HSP := Lib.hid HS
  have HINV := Lib.hid (DInv.new w p0 p1 p2 (min 4 (s.size + 1)) hL)
  have A0 := Lib.hid (fun W hL => atoi_bad p0 W hL z0 hbad)
  clear hL' HS hp hL z z0 z1 z2 hbad
  go_enter Tryz.func122, Tryz.ntmps122
  go_wp2_with fail
  refine (HSP.out _ _).mono ?_
  rintro e W0 ⟨rfl, hW0⟩
  have I0 : DInv w w.heap.size (w.heap.size + 1) (w.heap.size + 1 + 1) p0 p1 p2 0 0 0 W0 := by rw [hW0]; exact HINV.out
  have HI0 := Lib.hid I0
  clear hW0 I0
  go_wp2_with fail
  refine wp_loop_rounds 4 ?_
  rw [rounds_succ]
  have q0 := HI0.out.q0
  go_wp2_with fail
  refine (A0.out _ HI0.out.lay).mono ?_
  rintro e W1 ⟨v, T, N, rfl, hb1⟩
  have HI1 := Lib.hid (HI0.out.below hb1)
  clear hb1 q0
  obtain ⟨_, _, ⟨r0, r1, r2⟩, ⟨e0, e1, e2⟩⟩ := HI1.out.cells
  go_wp2_with fail
  have HR := fun F hF => HI1.out.result 0 0 0 (F := F) hF
  generalize ((W1.setCell ⟨w.heap.size, 0, none⟩ (.int .i64 0)).setCell ⟨w.heap.size, 1, none⟩ (.int .i64 0)).setCell ⟨w.heap.size, 2, none⟩ (.int .i64 0) = F at HR ⊢
  obtain ⟨g0, g1, g2, hb⟩ := HR F rfl
  refine bodyPost_ret (v := .tuple #[.agg #[.int .i64 0, .int .i64 0, .int .i64 0], .bool false]) (by simp [results, Tryz.results122, go_sem, g0, g1, g2]) rfl ⟨rfl, hb⟩

set_option maxRecDepth 100000 in
set_option maxHeartbeats 4000000 in
theorem read_bad1 (s : ByteArray) (w : World) (hL : Lay w) (hs : s.size ≤ 1000000) (p0 p1 p2 : ByteArray) (hp : partsB s = [p0, p1, p2]) (a : Int) (h0 : atoiAll p0.data.toList = .ok a) (hbad : ∀ v, atoiAll p1.data.toList ≠ .ok v) : Calls Tryz.prog 122 #[.string s] w (ReadPost w none) := by
  have z := parts_sizes s
  rw [hp] at z
  have z0 : p0.size ≤ 1000000 := by have := z p0 (by simp); omega
  have z1 : p1.size ≤ 1000000 := by have := z p1 (by simp); omega
  have z2 : p2.size ≤ 1000000 := by have := z p2 (by simp); omega
  have hL' : ∀ o o', Lay ((w.alloc o).alloc o') := fun o o' => hL.below (((Below.refl _ _).alloc (Nat.le_refl _) o).alloc (by simp) o') (Nat.le_refl _)
  have HS := fun o o' => splitN_any s _ (hL' o o') hs
  rw [hp] at HS
  have HSP := Lib.hid HS
  have HINV := Lib.hid (DInv.new w p0 p1 p2 (min 4 (s.size + 1)) hL)
  have A0 := Lib.hid (fun W => atoi_ok p0 a W z0 h0)
  have A1 := Lib.hid (fun W hL => atoi_bad p1 W hL z1 hbad)
  clear hL' HS hp hL z z0 z1 z2 h0 hbad
  go_enter Tryz.func122, Tryz.ntmps122
  go_wp2_with fail
  refine (HSP.out _ _).mono ?_
  rintro e W0 ⟨rfl, hW0⟩
  have I0 : DInv w w.heap.size (w.heap.size + 1) (w.heap.size + 1 + 1) p0 p1 p2 0 0 0 W0 := by rw [hW0]; exact HINV.out
  have HI0 := Lib.hid I0
  clear hW0 I0
  go_wp2_with fail
  refine wp_loop_rounds 4 ?_
  rw [rounds_succ]
  have q0 := HI0.out.q0
  go_wp2_with fail
  refine (A0.out _).mono ?_
  rintro e W1 ⟨rfl, hb1⟩
  have HI1 := Lib.hid (HI0.out.below hb1)
  clear hb1 q0
  obtain ⟨⟨c0, c1, c2⟩, ⟨f0, f1, f2⟩, _⟩ := HI1.out.cells
  go_wp2_with fail
  have I1 := HI1.out.put (a' := a) (b' := 0) (c' := 0) 0 a rfl
  generalize (W1.setCell ⟨w.heap.size + 1, 0, none⟩ (.int .i64 a)) = V1 at I1 ⊢
  have HJ1 := Lib.hid I1
  clear I1 HI1 HI0 c0 c1 c2 f0 f1 f2
  rw [rounds_succ]
  have q1 := HJ1.out.q1
  go_wp2_with fail
  refine (A1.out _ HJ1.out.lay).mono ?_
  rintro e W2 ⟨v, T, N, rfl, hb2⟩
  have HI2 := Lib.hid (HJ1.out.below hb2)
  clear hb2 q1
  obtain ⟨_, _, ⟨r0, r1, r2⟩, ⟨e0, e1, e2⟩⟩ := HI2.out.cells
  go_wp2_with fail
  have HR := fun F hF => HI2.out.result 0 0 0 (F := F) hF
  generalize ((W2.setCell ⟨w.heap.size, 0, none⟩ (.int .i64 0)).setCell ⟨w.heap.size, 1, none⟩ (.int .i64 0)).setCell ⟨w.heap.size, 2, none⟩ (.int .i64 0) = F at HR ⊢
  obtain ⟨g0, g1, g2, hb⟩ := HR F rfl
  refine bodyPost_ret (v := .tuple #[.agg #[.int .i64 0, .int .i64 0, .int .i64 0], .bool false]) (by simp [results, Tryz.results122, go_sem, g0, g1, g2]) rfl ⟨rfl, hb⟩

set_option maxRecDepth 100000 in
set_option maxHeartbeats 4000000 in
theorem read_bad2 (s : ByteArray) (w : World) (hL : Lay w) (hs : s.size ≤ 1000000) (p0 p1 p2 : ByteArray) (hp : partsB s = [p0, p1, p2]) (a b : Int) (h0 : atoiAll p0.data.toList = .ok a) (h1 : atoiAll p1.data.toList = .ok b) (hbad : ∀ v, atoiAll p2.data.toList ≠ .ok v) : Calls Tryz.prog 122 #[.string s] w (ReadPost w none) := by
  have z := parts_sizes s
  rw [hp] at z
  have z0 : p0.size ≤ 1000000 := by have := z p0 (by simp); omega
  have z1 : p1.size ≤ 1000000 := by have := z p1 (by simp); omega
  have z2 : p2.size ≤ 1000000 := by have := z p2 (by simp); omega
  have hL' : ∀ o o', Lay ((w.alloc o).alloc o') := fun o o' => hL.below (((Below.refl _ _).alloc (Nat.le_refl _) o).alloc (by simp) o') (Nat.le_refl _)
  have HS := fun o o' => splitN_any s _ (hL' o o') hs
  rw [hp] at HS
  have HSP := Lib.hid HS
  have HINV := Lib.hid (DInv.new w p0 p1 p2 (min 4 (s.size + 1)) hL)
  have A0 := Lib.hid (fun W => atoi_ok p0 a W z0 h0)
  have A1 := Lib.hid (fun W => atoi_ok p1 b W z1 h1)
  have A2 := Lib.hid (fun W hL => atoi_bad p2 W hL z2 hbad)
  clear hL' HS hp hL z z0 z1 z2 h0 h1 hbad
  go_enter Tryz.func122, Tryz.ntmps122
  go_wp2_with fail
  refine (HSP.out _ _).mono ?_
  rintro e W0 ⟨rfl, hW0⟩
  have I0 : DInv w w.heap.size (w.heap.size + 1) (w.heap.size + 1 + 1) p0 p1 p2 0 0 0 W0 := by rw [hW0]; exact HINV.out
  have HI0 := Lib.hid I0
  clear hW0 I0
  go_wp2_with fail
  refine wp_loop_rounds 4 ?_
  rw [rounds_succ]
  have q0 := HI0.out.q0
  go_wp2_with fail
  refine (A0.out _).mono ?_
  rintro e W1 ⟨rfl, hb1⟩
  have HI1 := Lib.hid (HI0.out.below hb1)
  clear hb1 q0
  obtain ⟨⟨c0, c1, c2⟩, ⟨f0, f1, f2⟩, _⟩ := HI1.out.cells
  go_wp2_with fail
  have I1 := HI1.out.put (a' := a) (b' := 0) (c' := 0) 0 a rfl
  generalize (W1.setCell ⟨w.heap.size + 1, 0, none⟩ (.int .i64 a)) = V1 at I1 ⊢
  have HJ1 := Lib.hid I1
  clear I1 HI1 HI0 c0 c1 c2 f0 f1 f2
  rw [rounds_succ]
  have q1 := HJ1.out.q1
  go_wp2_with fail
  refine (A1.out _).mono ?_
  rintro e W2 ⟨rfl, hb2⟩
  have HI2 := Lib.hid (HJ1.out.below hb2)
  clear hb2 q1
  obtain ⟨⟨c0, c1, c2⟩, ⟨f0, f1, f2⟩, _⟩ := HI2.out.cells
  go_wp2_with fail
  have I2 := HI2.out.put (a' := a) (b' := b) (c' := 0) 1 b rfl
  generalize (W2.setCell ⟨w.heap.size + 1, 1, none⟩ (.int .i64 b)) = V2 at I2 ⊢
  have HJ2 := Lib.hid I2
  clear I2 HI2 HJ1 c0 c1 c2 f0 f1 f2
  rw [rounds_succ]
  have q2 := HJ2.out.q2
  go_wp2_with fail
  refine (A2.out _ HJ2.out.lay).mono ?_
  rintro e W3 ⟨v, T, N, rfl, hb3⟩
  have HI3 := Lib.hid (HJ2.out.below hb3)
  clear hb3 q2
  obtain ⟨_, _, ⟨r0, r1, r2⟩, ⟨e0, e1, e2⟩⟩ := HI3.out.cells
  go_wp2_with fail
  have HR := fun F hF => HI3.out.result 0 0 0 (F := F) hF
  generalize ((W3.setCell ⟨w.heap.size, 0, none⟩ (.int .i64 0)).setCell ⟨w.heap.size, 1, none⟩ (.int .i64 0)).setCell ⟨w.heap.size, 2, none⟩ (.int .i64 0) = F at HR ⊢
  obtain ⟨g0, g1, g2, hb⟩ := HR F rfl
  refine bodyPost_ret (v := .tuple #[.agg #[.int .i64 0, .int .i64 0, .int .i64 0], .bool false]) (by simp [results, Tryz.results122, go_sem, g0, g1, g2]) rfl ⟨rfl, hb⟩

def readI (s : ByteArray) : Option (Int × Int × Int) :=
  match (partsB s).map fun p => atoiAll p.data.toList with
  | [.ok a, .ok b, .ok c] => some (a, b, c)
  | _ => none

theorem creadDate_any (s : ByteArray) (w : World) (hL : Lay w) (hs : s.size ≤ 1000000) : Calls Tryz.prog 122 #[.string s] w (ReadPost w (readI s)) := by
  by_cases hn : (partsB s).length = 3
  · obtain ⟨p0, p1, p2, hp⟩ : ∃ p0 p1 p2, partsB s = [p0, p1, p2] := by
      match h : partsB s, hn with
      | [p0, p1, p2], _ => exact ⟨p0, p1, p2, rfl⟩
    have hr : readI s = match [atoiAll p0.data.toList, atoiAll p1.data.toList, atoiAll p2.data.toList] with
      | [.ok a, .ok b, .ok c] => some (a, b, c)
      | _ => none := by unfold readI; rw [hp]; rfl
    rw [hr]
    have dec : ∀ e : NumEnd Int, (∃ v, e = .ok v) ∨ ∀ v, e ≠ .ok v := fun e => by
      by_cases h : ∃ v, e = .ok v
      · exact Or.inl h
      · exact Or.inr fun v hv => h ⟨v, hv⟩
    have nope : ∀ (x y z : NumEnd Int), ((∀ v, x ≠ .ok v) ∨ (∀ v, y ≠ .ok v) ∨ (∀ v, z ≠ .ok v)) → (match [x, y, z] with
      | [.ok a, .ok b, .ok c] => some (a, b, c)
      | _ => none) = none := fun x y z h => by
      split
      · rename_i a b c he
        simp only [List.cons.injEq, and_true] at he
        obtain ⟨rfl, rfl, rfl⟩ := he
        rcases h with h | h | h
        · exact absurd rfl (h _)
        · exact absurd rfl (h _)
        · exact absurd rfl (h _)
      · rfl
    rcases dec (atoiAll p0.data.toList) with ⟨a, h0⟩ | h0
    · rcases dec (atoiAll p1.data.toList) with ⟨b, h1⟩ | h1
      · rcases dec (atoiAll p2.data.toList) with ⟨c, h2⟩ | h2
        · rw [h0, h1, h2]
          exact read_three s w hL hs p0 p1 p2 hp a b c h0 h1 h2
        · rw [nope _ _ _ (Or.inr (Or.inr h2))]
          exact read_bad2 s w hL hs p0 p1 p2 hp a b h0 h1 h2
      · rw [nope _ _ _ (Or.inr (Or.inl h1))]
        exact read_bad1 s w hL hs p0 p1 p2 hp a h0 h1
    · rw [nope _ _ _ (Or.inl h0)]
      exact read_bad0 s w hL hs p0 p1 p2 hp h0
  · have hr : readI s = none := by
      unfold readI
      split
      · rename_i a b c he
        have := congrArg List.length he
        simp at this
        exact absurd this hn
      · rfl
    rw [hr]
    exact read_len s w hL hs hn

theorem readI_day (d : Nat) (h : d ≤ 36000) : readI (dayText d) = some (((d / 360 : Nat) : Int), ((d % 360 / 30 + 1 : Nat) : Int), ((d % 30 + 1 : Nat) : Int)) := by
  have hsz : 3 ≤ (dayText d).size := by
    have : (dayText d).size = (dayText d).data.toList.length := size_eq _
    rw [this, dayText_list]
    simp [twoL]
  have hm : (partsB (dayText d)).map (fun p => p.data.toList) = [decDigits (d / 360), twoL (d % 360 / 30 + 1), twoL (d % 30 + 1)] := by
    unfold partsB
    rw [show min 4 ((dayText d).size + 1) - 1 = 3 by omega, splitB_data, dayText_list]
    exact split_three _ _ _ (no_minus (dec_digits _ (by omega))) (no_minus (two_digits _ (by omega))) (no_minus (two_digits _ (by omega)))
  have hm2 : (partsB (dayText d)).map (fun p => atoiAll p.data.toList) = [.ok ((d / 360 : Nat) : Int), .ok ((d % 360 / 30 + 1 : Nat) : Int), .ok ((d % 30 + 1 : Nat) : Int)] := by
    have := congrArg (List.map atoiAll) hm
    rw [List.map_map] at this
    simp only [List.map_cons, List.map_nil] at this
    rw [atoi_dec _ (by omega), atoi_twoL _ (by omega), atoi_twoL _ (by omega)] at this
    exact this
  unfold readI
  rw [hm2]

theorem cText_day (d : Nat) (w : World) (h : d ≤ 36000) (hi : ItoaAt w (d / 360)) :
    Calls Tryz.prog 73 #[.int .i64 (d : Int)] w fun e w' => e = .returned (.string (dayText d)) ∧ Below w.heap.size w w' :=
  cText_any d _ _ _ w h rfl rfl rfl hi

def ParseIs (s : ByteArray) (p q : Int) : Prop := (∃ d : Nat, d ≤ 36000 ∧ dayText d = s ∧ p = d ∧ q = 0) ∨ ((∀ d, d ≤ 36000 → dayText d ≠ s) ∧ p = 0 ∧ q = 4)

theorem ParseIs.hit {s : ByteArray} {p q : Int} (h : ParseIs s p q) {d : Nat} (hd : d ≤ 36000) (hs : dayText d = s) : p = d ∧ q = 0 := by
  rcases h with ⟨e, he, hs', h1, h2⟩ | ⟨h, _⟩
  · rw [dayText_inj hd he (hs.trans hs'.symm)]; exact ⟨h1, h2⟩
  · exact absurd hs (h d hd)
theorem dayI_cases (a b c : Int) : (∃ d : Nat, d ≤ 36000 ∧ dayI a b c = ((d : Int), 0)) ∨ dayI a b c = (0, 2) := by
  unfold dayI
  split
  · unfold checkedI
    split
    · rename_i h
      obtain ⟨h0, h1⟩ := dayB_true.1 h
      exact Or.inl ⟨(a * 360 + (b - 1) * 30 + c - 1).toNat, by omega, by rw [Int.toNat_of_nonneg h0]⟩
    · exact Or.inr rfl
  · exact Or.inr rfl

theorem dayI_day (d : Nat) (h : d ≤ 36000) : dayI ((d / 360 : Nat) : Int) ((d % 360 / 30 + 1 : Nat) : Int) ((d % 30 + 1 : Nat) : Int) = ((d : Int), 0) := by
  unfold dayI
  rw [if_pos (by rw [inB_true.2 ⟨by omega, by omega⟩, inB_true.2 ⟨by omega, by omega⟩, inB_true.2 ⟨by omega, by omega⟩]; rfl), show ((d / 360 : Nat) : Int) * 360 + (((d % 360 / 30 + 1 : Nat) : Int) - 1) * 30 + ((d % 30 + 1 : Nat) : Int) - 1 = (d : Int) by omega]
  exact checked_yes (dayB_true.2 ⟨by omega, by omega⟩)

set_option maxRecDepth 100000 in
set_option maxHeartbeats 2000000 in
theorem cParse_any (s : ByteArray) (p q : Int) (h : ParseIs s p q) (w : World) (hL : Lay w) (hs : s.size ≤ 1000000) :
    Calls Tryz.prog 104 #[.string s] w fun e w' => e = .returned (.tuple #[.int .i64 p, .int .i64 q]) ∧ Below w.heap.size w w' := by
  have hR := creadDate_any s w hL hs
  have HL := Lib.hid hL
  have H := Lib.hid h
  cases hr : readI s with
  | none =>
    rw [hr] at hR
    have hpq : p = 0 ∧ q = 4 := by
      rcases h with ⟨d, h1, h2, _⟩ | ⟨_, h1, h2⟩
      · rw [← h2, readI_day d h1] at hr; cases hr
      · exact ⟨h1, h2⟩
    obtain ⟨rfl, rfl⟩ := hpq
    have HR := Lib.hid hR
    clear hR hr h hL
    go_enter Tryz.func104, Tryz.ntmps104
    go_wp2_with fail
    refine (HR.out).mono ?_
    rintro e w1 ⟨rfl, hb⟩
    go_wp2_with fail
    go_ret2
    exact ⟨rfl, hb.alloc hb.size _⟩
  | some x =>
    obtain ⟨a, b, c⟩ := x
    rw [hr] at hR
    have HR := Lib.hid hR
    have hD := fun w => cDay_any a b c w
    rcases dayI_cases a b c with ⟨d, hd, hday⟩ | hday
    · rw [hday] at hD
      have HD := Lib.hid hD
      have HT := Lib.hid (fun w' (hb : Below w.heap.size w w') => cText_day d w' hd ((HL.out.below hb (Nat.le_refl _)).itoa d hd))
      by_cases he : dayText d = s
      · obtain ⟨rfl, rfl⟩ := H.out.hit hd he
        have hne := strEq_true he
        clear hR hr h hL hday hD he
        go_enter Tryz.func104, Tryz.ntmps104
        go_wp2_with fail
        refine (HR.out).mono ?_
        rintro e w1 ⟨rfl, hb⟩
        go_wp2_with fail
        refine (HD.out _).mono ?_
        rintro e w2 ⟨rfl, rfl⟩
        go_wp2_with fail
        refine (HT.out _ (hb.alloc hb.size _)).mono ?_
        rintro e w2 ⟨rfl, hb2⟩
        go_wp2_with fail
        go_ret2
        exact ⟨rfl, (hb.alloc hb.size _).trans (hb2.mono (hb.alloc hb.size _).size)⟩
      · have hpq : p = 0 ∧ q = 4 := by
          rcases h with ⟨d', h1, h2, _⟩ | ⟨_, h1, h2⟩
          · rw [← h2, readI_day d' h1] at hr
            simp only [Option.some.injEq, Prod.mk.injEq] at hr
            obtain ⟨rfl, rfl, rfl⟩ := hr
            rw [dayI_day d' h1] at hday
            simp only [Prod.mk.injEq, and_true] at hday
            have : d' = d := by omega
            exact absurd (this ▸ h2) he
          · exact ⟨h1, h2⟩
        obtain ⟨rfl, rfl⟩ := hpq
        have hne := strEq_false he
        clear hR hr h hL hday hD he
        go_enter Tryz.func104, Tryz.ntmps104
        go_wp2_with fail
        refine (HR.out).mono ?_
        rintro e w1 ⟨rfl, hb⟩
        go_wp2_with fail
        refine (HD.out _).mono ?_
        rintro e w2 ⟨rfl, rfl⟩
        go_wp2_with fail
        refine (HT.out _ (hb.alloc hb.size _)).mono ?_
        rintro e w2 ⟨rfl, hb2⟩
        go_wp2_with fail
        go_ret2
        exact ⟨rfl, (hb.alloc hb.size _).trans (hb2.mono (hb.alloc hb.size _).size)⟩
    · rw [hday] at hD
      have HD := Lib.hid hD
      have hpq : p = 0 ∧ q = 4 := by
        rcases h with ⟨d', h1, h2, _⟩ | ⟨_, h1, h2⟩
        · rw [← h2, readI_day d' h1] at hr
          simp only [Option.some.injEq, Prod.mk.injEq] at hr
          obtain ⟨rfl, rfl, rfl⟩ := hr
          rw [dayI_day d' h1] at hday
          simp only [Prod.mk.injEq] at hday
          exact absurd hday.2 (by omega)
        · exact ⟨h1, h2⟩
      obtain ⟨rfl, rfl⟩ := hpq
      clear hR hr h hL hday hD
      go_enter Tryz.func104, Tryz.ntmps104
      go_wp2_with fail
      refine (HR.out).mono ?_
      rintro e w1 ⟨rfl, hb⟩
      go_wp2_with fail
      refine (HD.out _).mono ?_
      rintro e w2 ⟨rfl, rfl⟩
      go_wp2_with fail
      go_ret2
      exact ⟨rfl, hb.alloc hb.size _⟩

end Go.Proofs.YtdgckdmgplpobaaGreatDoor

/- Contracts of classification.Has and hasParent (with slices.ContainsFunc and IndexFunc for headings): whether a list has a heading with a code, or the parent of one; for lists of up to 10^6 headings with texts of up to 10^6 bytes. -/
namespace Go.Proofs.YtdgckdmgplpobaaGreatDoor
open Go.RowKit Go.Lib Go.Proofs

def PredH (f : Nat) (lb : Array Value) (p : Head → Bool) (hs : List Head) (Old : World → Prop) : Prop :=
  ∀ h ∈ hs, ∀ W, Old W → Calls Tryz.prog f (#[.agg #[.string h.1, .string h.2]] ++ lb) W fun e W' => e = .returned (.bool (p h)) ∧ Below W.heap.size W W'

set_option maxRecDepth 100000 in
set_option maxHeartbeats 4000000 in
theorem slIndexH_any (f : Nat) (lb : Array Value) (eg : ∀ args w, (callFunc f args).run Tryz.prog w = .ok (.enter f args) w) (p : Head → Bool) (xs : List Head) (v : Value) (w : World)
    (hr : RowG w v xs.length 2 (cellsH xs)) (hlen : xs.length ≤ 1000000) (hp : PredH f lb p xs fun W => Below w.heap.size w W) :
    Calls Tryz.prog 154 #[v, .func (.func f) #[] lb] w (IndexPost p xs w) := by
  obtain ⟨h0, ao, cap, rfl, hcap, hc⟩ := hr
  obtain ⟨n, hn⟩ : ∃ n, n = xs.length := ⟨_, rfl⟩
  have HN := Lib.hid hn
  have HP := Lib.hid hp
  rw [← hn] at hc hlen hcap ⊢
  clear h0 hp hn
  by_cases hz : n = 0
  · subst hz
    go_enter Tryz.func154, Tryz.ntmps154
    go_wp2
    go_loop [8] (fun i => i = .int .i64 0) (fun _ => 0)
    case atStart => rfl
    case round =>
      subst hrel
      go_wp2
      go_ret
      have hx0 : xs = [] := List.length_eq_zero_iff.1 HN.out.symm
      exact ⟨-1, rfl, Or.inl ⟨rfl, by rw [hx0]; simp⟩, Below.refl _ _⟩
  · rcases hc with hc | ⟨b, o, rfl, hb, hc⟩
    · exact absurd hc hz
    have HC := Lib.hid hc
    clear hc
    go_enter Tryz.func154, Tryz.ntmps154
    go_wp2
    go_loopw [8] (fun i wr => ∃ k : Nat, i = .int .i64 k ∧ k ≤ n ∧ Hid (∀ x ∈ xs.take k, p x = false) ∧ Hid (Below w.heap.size w wr)) (fun i _ => n - (RowKit.intOf i).toNat)
    case atStart => exact ⟨0, rfl, by omega, Lib.hid (by simp), Lib.hid (Below.refl _ _)⟩
    case round =>
      obtain ⟨k, rfl, hkn, HF, HB⟩ := hrel
      by_cases hlt : k < n
      · have hlx : k < xs.length := by rw [← HN.out]; exact hlt
        obtain ⟨g1, g2⟩ := cellsH_get xs k hlx
        have c1 : wr.cell? ⟨b, o + k * 2, none⟩ = some (.string xs[k].1) := by rw [HB.out.cell (by exact hb), HC.out (k * 2) (by omega), g1]
        have c2 : wr.cell? ⟨b, o + k * 2 + 1, none⟩ = some (.string xs[k].2) := by rw [Nat.add_assoc, HB.out.cell (by exact hb), HC.out (k * 2 + 1) (by omega), g2]
        have hcall := HP.out xs[k] (List.getElem_mem hlx) wr HB.out
        obtain ⟨x, hx⟩ : ∃ x, x = xs[k] := ⟨_, rfl⟩
        rw [← hx] at c1 c2 hcall
        cases hpx : p x with
        | true =>
          rw [hpx] at hcall
          have HCALL := Lib.hid hcall
          have HX := Lib.hid hx
          have HPX := Lib.hid hpx
          clear hcall hx hpx g1 g2
          go_wp2_with fail
          refine (HCALL.out).mono ?_
          rintro e w1 ⟨rfl, hb1⟩
          go_wp2
          go_ret
          exact ⟨k, rfl, Or.inr ⟨k, rfl, hlx, by rw [← HX.out]; exact HPX.out, HF.out⟩, HB.out.trans (hb1.mono HB.out.size)⟩
        | false =>
          rw [hpx] at hcall
          have HCALL := Lib.hid hcall
          have HX := Lib.hid hx
          have HPX := Lib.hid hpx
          clear hcall hx hpx g1 g2
          go_wp2_with fail
          refine (HCALL.out).mono ?_
          rintro e w1 ⟨rfl, hb1⟩
          have HB1 := Lib.hid hb1
          clear hb1
          go_wp2
          go_roundw
          case rel => exact ⟨k + 1, by go_num, by omega, Lib.hid (take_snoc_pred hlx HF.out (by rw [← HX.out]; exact HPX.out)), Lib.hid (HB.out.trans (HB1.out.mono HB.out.size))⟩
          case measure => simp [RowKit.intOf]; omega
      · obtain rfl : k = n := by omega
        have hge : (k : Int) ≤ (k : Int) := Int.le_refl _
        go_wp2
        go_ret
        refine ⟨-1, rfl, Or.inl ⟨rfl, ?_⟩, HB.out⟩
        have := HF.out
        rw [HN.out, List.take_length] at this
        exact this

set_option maxHeartbeats 1000000 in
theorem slContainsH_any (f : Nat) (lb : Array Value) (eg : ∀ args w, (callFunc f args).run Tryz.prog w = .ok (.enter f args) w) (p : Head → Bool) (xs : List Head) (v : Value) (w : World)
    (hr : RowG w v xs.length 2 (cellsH xs)) (hlen : xs.length ≤ 1000000) (hp : PredH f lb p xs fun W => Below w.heap.size w W) :
    Calls Tryz.prog 150 #[v, .func (.func f) #[] lb] w fun e w' => e = .returned (.bool (xs.any p)) ∧ Below w.heap.size w w' := by
  have HI := Lib.hid (slIndexH_any f lb eg p xs v w hr hlen hp)
  obtain ⟨r, hr'⟩ : ∃ r, xs.any p = r := ⟨_, rfl⟩
  rw [hr']
  have HR := Lib.hid hr'
  clear hr hp hr'
  go_enter Tryz.func150, Tryz.ntmps150
  go_wp2_with fail
  refine (HI.out).mono ?_
  rintro e w1 ⟨i, rfl, hi, hb⟩
  rcases hi with ⟨rfl, hall⟩ | ⟨k, rfl, hk, hpk, _⟩
  · have hr2 : r = false := by
      rw [← HR.out, Bool.eq_false_iff]
      intro h
      obtain ⟨x, hx, hp⟩ := List.any_eq_true.1 h
      rw [hall x hx] at hp; cases hp
    subst hr2
    clear hall
    go_wp2
    go_ret
    exact ⟨rfl, hb⟩
  · have hr2 : r = true := by
      rw [← HR.out]
      exact List.any_eq_true.2 ⟨_, List.getElem_mem hk, hpk⟩
    subst hr2
    clear hpk
    have h0 : (0 : Int) ≤ (k : Int) := by omega
    go_wp2
    go_ret
    exact ⟨by simp, hb⟩

set_option maxHeartbeats 1000000 in
theorem clHasC_any (c d code : ByteArray) (b : Nat) (w : World) (hc : w.cell? ⟨b, 0, none⟩ = some (.string code)) :
    Calls Tryz.prog 151 #[.agg #[.string c, .string d], .pointer (some ⟨b, 0, none⟩)] w fun e w' => e = .returned (.bool (decide (c = code))) ∧ Below w.heap.size w w' := by
  have hb := cell_lt hc
  by_cases he : c = code
  · have h1 := strEq_true he
    rw [decide_eq_true he]
    clear he
    go_enter Tryz.func151, Tryz.ntmps151
    go_wp2
    go_ret
    exact ⟨by simp, below_alloc _ _⟩
  · have h1 := strEq_false he
    rw [decide_eq_false he]
    clear he
    go_enter Tryz.func151, Tryz.ntmps151
    go_wp2
    go_ret
    exact ⟨by simp, below_alloc _ _⟩

def hasHeadB (hs : List Head) (code : ByteArray) : Bool := isCodeB code && hs.any fun h => decide (h.1 = code)

set_option maxHeartbeats 2000000 in
theorem clHas_any (hs : List Head) (v : Value) (code : ByteArray) (w : World) (hL : Lay w) (hr : RowG w v hs.length 2 (cellsH hs)) (hlen : hs.length ≤ 1000000) (hcs : code.size ≤ 1000000) :
    Calls Tryz.prog 146 #[v, .string code] w fun e w' => e = .returned (.bool (hasHeadB hs code)) ∧ Below w.heap.size w w' := by
  have hcode := fun o => clisCode_any code (w.alloc o) (hL.below (below_alloc w o) (Nat.le_refl _)) hcs
  obtain ⟨r, hr'⟩ : ∃ r, hasHeadB hs code = r := ⟨_, rfl⟩
  rw [hr']
  unfold hasHeadB at hr'
  have HRW := Lib.hid hr
  cases hq : isCodeB code with
  | false =>
    rw [hq] at hcode hr'
    rw [Bool.false_and] at hr'
    subst hr'
    have HC := Lib.hid hcode
    clear hcode hq hL hr
    go_enter Tryz.func146, Tryz.ntmps146
    go_wp2_with fail
    refine (HC.out _).mono ?_
    rintro e w1 ⟨rfl, hb⟩
    go_wp2
    go_ret
    exact ⟨rfl, (below_alloc w _).trans (hb.mono (below_alloc w _).size)⟩
  | true =>
    rw [hq] at hcode hr'
    rw [Bool.true_and] at hr'
    have HC := Lib.hid hcode
    have HR := Lib.hid hr'
    clear hcode hq hL hr hr'
    go_enter Tryz.func146, Tryz.ntmps146
    go_wp2_with fail
    refine (HC.out _).mono ?_
    rintro e w1 ⟨rfl, hb⟩
    have hbox : w1.cell? ⟨w.heap.size, 0, none⟩ = some (.string code) := by
      rw [hb.cell (p := ⟨w.heap.size, 0, none⟩) (by simp)]
      simp
    have hB1 : Below w.heap.size w w1 := (below_alloc w _).trans (hb.mono (below_alloc w _).size)
    have hcon := slContainsH_any 151 #[.pointer (some ⟨w.heap.size, 0, none⟩)] (enters_of Tryz.func151 (by kernel_rfl) rfl) (fun h => decide (h.1 = code)) hs v w1 (HRW.out.below hB1) hlen (fun h hh W hW =>
      clHasC_any h.1 h.2 code w.heap.size W (by rw [hW.cell (p := ⟨w.heap.size, 0, none⟩) (cell_lt hbox)]; exact hbox))
    rw [HR.out] at hcon
    have HCON := Lib.hid hcon
    have HB1 := Lib.hid hB1
    clear hcon hB1 hbox hb
    go_wp2_with fail
    refine (HCON.out).mono ?_
    rintro e w2 ⟨rfl, hb2⟩
    go_wp2
    go_ret
    exact ⟨rfl, HB1.out.trans (hb2.mono HB1.out.size)⟩

def hasParentB (hs : List Head) (code : ByteArray) : Bool := decide (parentB code = ⟨#[]⟩) || hasHeadB hs (parentB code)

set_option maxHeartbeats 2000000 in
theorem clhasParent_any (hs : List Head) (v : Value) (code : ByteArray) (w : World) (hL : Lay w) (hr : RowG w v hs.length 2 (cellsH hs)) (hlen : hs.length ≤ 1000000) (hcs : code.size ≤ 1000000) :
    Calls Tryz.prog 141 #[v, .string code] w fun e w' => e = .returned (.bool (hasParentB hs code)) ∧ Below w.heap.size w w' := by
  have HP := Lib.hid (clparent_any code w hcs)
  have hz := parentB_size code
  have HH := Lib.hid (clHas_any hs v (parentB code) w hL hr hlen (by omega))
  unfold hasParentB
  generalize parentB code = up at *
  generalize hasHeadB hs up = r at *
  clear hL hr
  by_cases h : up = ⟨#[]⟩
  · have h1 := strNil_true h
    have h3 : up.toList.isEmpty = true := by simpa using h1
    rw [decide_eq_true h, Bool.true_or]
    clear h
    go_enter Tryz.func141, Tryz.ntmps141
    go_wp2_with fail
    refine (HP.out).mono ?_
    rintro e w1 ⟨rfl, rfl⟩
    go_wp2
    go_ret
    exact ⟨rfl, Below.refl _ _⟩
  · have h1 := strNil_false h
    have h3 : up.toList.isEmpty = false := by simpa using h1
    rw [decide_eq_false h, Bool.false_or]
    clear h
    go_enter Tryz.func141, Tryz.ntmps141
    go_wp2_with fail
    refine (HP.out).mono ?_
    rintro e w1 ⟨rfl, rfl⟩
    go_wp2_with fail
    refine (HH.out).mono ?_
    rintro e w2 ⟨rfl, hb⟩
    go_wp2
    go_ret
    exact ⟨by simp, hb⟩

end Go.Proofs.YtdgckdmgplpobaaGreatDoor

/- Contracts of classification.headingFault, fault and Valid: the first error that applies to a list of headings, and the number of its heading; for lists of up to 10^6 headings with texts of up to 10^6 bytes. -/
namespace Go.Proofs.YtdgckdmgplpobaaGreatDoor
open Go.RowKit Go.Lib Go.Proofs

def codeAt (hs : List Head) (i : Nat) : ByteArray := match hs[i]? with
  | some g => g.1
  | none => ⟨#[]⟩
theorem codeAt_eq {hs : List Head} {i : Nat} (h : i < hs.length) : codeAt hs i = hs[i].1 := by unfold codeAt; rw [List.getElem?_eq_getElem h]

def headFault (hs : List Head) (i : Nat) : Int :=
  match hs[i]? with
  | none => 0
  | some h =>
    if isCodeB h.1 = false then 5
    else if nameB h.2 = false then 4
    else if 0 < i ∧ (0 : Int) ≤ cmpCode (codeAt hs (i - 1)) h.1 then 8
    else if hasParentB hs h.1 = false then 6
    else 0

theorem row_head {w : World} {b o : Nat} {hs : List Head} (hc : ∀ j, j < hs.length * 2 → w.cell? ⟨b, o + j, none⟩ = (cellsH hs)[j]?) {k : Nat} (hk : k < hs.length) :
    w.cell? ⟨b, o + k * 2, none⟩ = some (.string hs[k].1) ∧ w.cell? ⟨b, o + k * 2 + 1, none⟩ = some (.string hs[k].2) := by
  obtain ⟨g1, g2⟩ := cellsH_get hs k hk
  exact ⟨by rw [hc (k * 2) (by omega), g1], by rw [Nat.add_assoc, hc (k * 2 + 1) (by omega), g2]⟩

set_option maxRecDepth 100000 in
set_option maxHeartbeats 4000000 in
theorem clheadingFault_any (hs : List Head) (v : Value) (i : Nat) (w : World) (hL : Lay w) (hr : RowG w v hs.length 2 (cellsH hs)) (hlen : hs.length ≤ 1000000) (hok : HeadsOk hs) (hi : i < hs.length) :
    Calls Tryz.prog 134 #[v, .int .i64 i] w fun e w' => e = .returned (.int .i64 (headFault hs i)) ∧ Below w.heap.size w w' := by
  have hr0 := hr
  obtain ⟨_, ao, cap, rfl, hcap, hc⟩ := hr0
  rcases hc with hc | ⟨b, o, rfl, hb, hc⟩
  · omega
  obtain ⟨c1, c2⟩ := row_head hc hi
  obtain ⟨k1, k2⟩ := hok hs[i] (List.getElem_mem hi)
  obtain ⟨x, hx⟩ : ∃ x, x = hs[i] := ⟨_, rfl⟩
  have hf : headFault hs i = if isCodeB x.1 = false then 5
    else if nameB x.2 = false then 4
    else if 0 < i ∧ (0 : Int) ≤ cmpCode (codeAt hs (i - 1)) x.1 then 8
    else if hasParentB hs x.1 = false then 6
    else 0 := by unfold headFault; rw [List.getElem?_eq_getElem hi, ← hx]
  rw [← hx] at c1 c2 k1 k2
  obtain ⟨c, d⟩ := x
  simp only at c1 c2 k1 k2 hf
  rw [hf]
  have hLa : ∀ o, Lay (w.alloc o) := fun o => hL.below (below_alloc w o) (Nat.le_refl _)
  have hLb : ∀ W, Below w.heap.size w W → Lay W := fun W h => hL.below h (Nat.le_refl _)
  have HCODE := Lib.hid (fun o => clisCode_any c (w.alloc o) (hLa o) k1)
  have HNAME := Lib.hid (fun W => clisName_any d W k2)
  have HPAR := Lib.hid (fun W (h : Below w.heap.size w W) => clhasParent_any hs _ c W (hLb W h) (hr.below h) hlen k1)
  have hstep : ∀ (W : World), Below (w.alloc (.cells #[.string c, .string d] 53)).heap.size (w.alloc (.cells #[.string c, .string d] 53)) W → Below w.heap.size w W ∧ W.cell? ⟨w.heap.size, 0, none⟩ = some (.string c) ∧ W.cell? ⟨w.heap.size, 1, none⟩ = some (.string d) := fun W hW =>
    ⟨(below_alloc w _).trans (hW.mono (below_alloc w _).size), by rw [hW.cell (p := ⟨w.heap.size, 0, none⟩) (by simp)]; simp, by rw [hW.cell (p := ⟨w.heap.size, 1, none⟩) (by simp)]; simp⟩
  have HSTEP := Lib.hid hstep
  have hi0 : (i : Int) < (hs.length : Int) := by omega
  generalize hasParentB hs c = pr at *
  cases hq : isCodeB c with
  | false =>
    rw [hq] at HCODE
    rw [if_pos rfl]
    clear hq hf hx hL hr hc hLa hLb hok hstep
    go_enter Tryz.func134, Tryz.ntmps134
    go_wp2_with fail
    refine (HCODE.out _).mono ?_
    rintro e w1 ⟨rfl, hb1⟩
    obtain ⟨q1, q2, q3⟩ := HSTEP.out _ hb1
    go_wp2
    go_ret
    exact ⟨rfl, q1⟩
  | true =>
    rw [hq] at HCODE
    rw [if_neg (by decide)]
    cases hn : nameB d with
    | false =>
      rw [hn] at HNAME
      rw [if_pos rfl]
      clear hq hf hx hL hr hc hLa hLb hok hn hstep
      go_enter Tryz.func134, Tryz.ntmps134
      go_wp2_with fail
      refine (HCODE.out _).mono ?_
      rintro e w1 ⟨rfl, hb1⟩
      obtain ⟨q1, q2, q3⟩ := HSTEP.out _ hb1
      have HB1 := Lib.hid hb1
      clear hb1
      go_wp2_with fail
      refine (HNAME.out _).mono ?_
      rintro e w2 ⟨rfl, hb2⟩
      have hb3 := q1.trans (hb2.mono q1.size)
      go_wp2
      go_ret
      exact ⟨rfl, hb3⟩
    | true =>
      rw [hn] at HNAME
      rw [if_neg (by decide)]
      by_cases hz : i = 0
      · subst hz
        simp only [Nat.zero_mul, Nat.add_zero] at c1 c2
        rw [if_neg (fun h => absurd h.1 (Nat.lt_irrefl _))]
        clear hq hf hx hL hr hc hLa hLb hok hn hstep
        go_enter Tryz.func134, Tryz.ntmps134
        go_wp2_with fail
        refine (HCODE.out _).mono ?_
        rintro e w1 ⟨rfl, hb1⟩
        obtain ⟨q1, q2, q3⟩ := HSTEP.out _ hb1
        have HB1 := Lib.hid hb1
        clear hb1
        go_wp2_with fail
        refine (HNAME.out _).mono ?_
        rintro e w2 ⟨rfl, hb2⟩
        obtain ⟨p1, p2, p3⟩ := HSTEP.out _ (HB1.out.trans (hb2.mono HB1.out.size))
        clear hb2 q1 q2 q3 HB1
        go_wp2
        go_quiet (fail)
        cases pr with
        | true =>
          go_wp2_with fail
          refine (HPAR.out _ (below_drewN p1 _)).mono ?_
          rintro e w3 ⟨rfl, hb3⟩
          have hb4 := (below_drewN p1 _).trans (hb3.mono p1.size)
          go_wp2
          go_ret
          exact ⟨rfl, hb4⟩
        | false =>
          go_wp2_with fail
          refine (HPAR.out _ (below_drewN p1 _)).mono ?_
          rintro e w3 ⟨rfl, hb3⟩
          have hb4 := (below_drewN p1 _).trans (hb3.mono p1.size)
          go_wp2
          go_ret
          exact ⟨rfl, hb4⟩
      · have hi1 : i - 1 < hs.length := by omega
        obtain ⟨d1, _⟩ := row_head hc hi1
        obtain ⟨k3, _⟩ := hok hs[i - 1] (List.getElem_mem hi1)
        rw [← codeAt_eq hi1] at d1 k3
        generalize codeAt hs (i - 1) = c' at *
        have HCMP := Lib.hid (fun W (h : Below w.heap.size w W) => clCompare_any c' c W (hLb W h) k3 k1)
        generalize cmpCode c' c = m at *
        have hipos : 0 < i := by omega
        obtain ⟨j, rfl⟩ : ∃ j, i = j + 1 := ⟨i - 1, by omega⟩
        simp only [Nat.add_sub_cancel] at d1
        have hbw := hb
        obtain ⟨r, hres⟩ : ∃ r : Int, (if 0 < j + 1 ∧ (0 : Int) ≤ m then 8 else if pr = false then 6 else 0) = r := ⟨_, rfl⟩
        rw [hres]
        have HRES := Lib.hid hres
        clear hres
        clear hq hf hx hL hr hc hLa hLb hok hn hstep
        have d1' : ∀ W, Below w.heap.size w W → W.cell? ⟨b, o + j * 2, none⟩ = some (.string c') := fun W hW => (hW.cell (p := ⟨b, o + j * 2, none⟩) hbw).trans d1
        have HD1 := Lib.hid d1'
        clear d1 d1'
        go_enter Tryz.func134, Tryz.ntmps134
        go_wp2_with fail
        refine (HCODE.out _).mono ?_
        rintro e w1 ⟨rfl, hb1⟩
        obtain ⟨q1, q2, q3⟩ := HSTEP.out _ hb1
        have HB1 := Lib.hid hb1
        clear hb1
        go_wp2_with fail
        refine (HNAME.out _).mono ?_
        rintro e w2 ⟨rfl, hb2⟩
        obtain ⟨p1, p2, p3⟩ := HSTEP.out _ (HB1.out.trans (hb2.mono HB1.out.size))
        have d2 := HD1.out _ p1
        clear hb2 q1 q2 q3 HB1
        go_wp2
        refine wp_region_still_tail 11 (by kernel_rfl) (by kernel_rfl) ?_
        simp only [List.take_succ_cons, List.take_zero, List.drop_succ_cons, List.drop_zero]
        have hj0 : (0 : Int) ≤ (j : Int) := by omega
        have hj1 : (j : Int) < (hs.length : Int) := by omega
        have hwr : IntKind.i64.wrap (j : Int) = j := IntWalk.i64_in _ (by omega)
        repeat still_step
        refine wpStill_nil ?_
        change wpList _ _ _ _ _ w2.drew
        clear hwr
        have hbd : Below w.heap.size w w2.drew := ⟨p1.os, p1.tape, p1.output, p1.size, p1.block⟩
        have e2 : w2.drew.cell? ⟨w.heap.size, 0, none⟩ = some (.string c) := p2
        generalize w2.drew = w3 at *
        clear p1 p2 p3 d2
        by_cases hm : 0 ≤ m
        · have hr8 : r = 8 := by rw [← HRES.out, if_pos ⟨by omega, hm⟩]
          subst hr8
          go_wp2_with fail
          refine (HCMP.out _ hbd).mono ?_
          rintro e w4 ⟨rfl, hb4⟩
          have hb5 := hbd.trans (hb4.mono hbd.size)
          go_wp2
          go_ret
          exact ⟨rfl, hb5⟩
        · have hres2 : r = if pr = false then 6 else 0 := by rw [← HRES.out, if_neg (fun h => hm h.2)]
          have hm2 : m < 0 := by omega
          have e3 : ∀ W, Below w3.heap.size w3 W → W.cell? ⟨w.heap.size, 0, none⟩ = some (.string c) := fun W hW => (hW.cell (p := ⟨w.heap.size, 0, none⟩) (cell_lt e2)).trans e2
          have HE3 := Lib.hid e3
          clear e3
          cases pr with
          | true =>
            rw [if_neg (by decide)] at hres2
            subst hres2
            go_wp2_with fail
            refine (HCMP.out _ hbd).mono ?_
            rintro e w4 ⟨rfl, hb4⟩
            have hb5 := hbd.trans (hb4.mono hbd.size)
            have e4 := HE3.out _ hb4
            clear hb4
            go_wp2_with fail
            refine (HPAR.out _ hb5).mono ?_
            rintro e w5 ⟨rfl, hb6⟩
            have hb7 := hb5.trans (hb6.mono hb5.size)
            go_wp2
            go_ret
            exact ⟨rfl, hb7⟩
          | false =>
            rw [if_pos rfl] at hres2
            subst hres2
            go_wp2_with fail
            refine (HCMP.out _ hbd).mono ?_
            rintro e w4 ⟨rfl, hb4⟩
            have hb5 := hbd.trans (hb4.mono hbd.size)
            have e4 := HE3.out _ hb4
            clear hb4
            go_wp2_with fail
            refine (HPAR.out _ hb5).mono ?_
            rintro e w5 ⟨rfl, hb6⟩
            have hb7 := hb5.trans (hb6.mono hb5.size)
            go_wp2
            go_ret
            exact ⟨rfl, hb7⟩

def faultOf (hs : List Head) : Int × Int :=
  if 60 < hs.length then (0, 3) else match (List.range hs.length).find? fun i => decide (headFault hs i ≠ 0) with
    | some i => ((i : Int) + 1, headFault hs i)
    | none => (0, 0)

theorem faultOf_hit {hs : List Head} {k : Nat} (hn : ¬ 60 < hs.length) (hk : k < hs.length) (h : headFault hs k ≠ 0) (hall : ∀ i, i < k → headFault hs i = 0) : faultOf hs = ((k : Int) + 1, headFault hs k) := by
  unfold faultOf
  rw [if_neg hn]
  have : (List.range hs.length).find? (fun i => decide (headFault hs i ≠ 0)) = some k := by
    rw [List.find?_eq_some_iff_append]
    refine ⟨by simpa using h, List.range k, (List.range (hs.length - k - 1)).map (· + (k + 1)), ?_, ?_⟩
    · apply List.ext_getElem
      · simp; omega
      · intro i h1 h2
        by_cases hik : i < k
        · rw [List.getElem_append_left (by simpa using hik)]; simp
        · rw [List.getElem_append_right (by simpa using hik)]
          simp only [List.length_range, List.getElem_range]
          rw [List.getElem_cons]
          split
          · omega
          · simp; omega
    · intro i hi
      have := hall i (by simpa using hi)
      simp [this]
  rw [this]

theorem faultOf_none {hs : List Head} (hn : ¬ 60 < hs.length) (hall : ∀ i, i < hs.length → headFault hs i = 0) : faultOf hs = (0, 0) := by
  unfold faultOf
  rw [if_neg hn]
  have : (List.range hs.length).find? (fun i => decide (headFault hs i ≠ 0)) = none := by
    rw [List.find?_eq_none]
    intro i hi
    have := hall i (by simpa using hi)
    simp [this]
  rw [this]

set_option maxRecDepth 100000 in
set_option maxHeartbeats 4000000 in
theorem clfault_any (hs : List Head) (v : Value) (w : World) (hL : Lay w) (hr : RowG w v hs.length 2 (cellsH hs)) (hlen : hs.length ≤ 1000000) (hok : HeadsOk hs) :
    Calls Tryz.prog 121 #[v] w fun e w' => e = .returned (.tuple #[.int .i64 (faultOf hs).1, .int .i64 (faultOf hs).2]) ∧ Below w.heap.size w w' := by
  have hr0 := hr
  obtain ⟨_, ao, cap, rfl, hcap, _⟩ := hr0
  obtain ⟨x, y, hxy⟩ : ∃ x y, faultOf hs = (x, y) := ⟨_, _, rfl⟩
  rw [hxy]
  have HXY := Lib.hid hxy
  obtain ⟨n, hn⟩ : ∃ n, n = hs.length := ⟨_, rfl⟩
  have HF := Lib.hid (fun W i (h : Below w.heap.size w W) (hi : i < hs.length) => clheadingFault_any hs _ i W (hL.below h (Nat.le_refl _)) (hr.below h) hlen hok hi)
  rw [← hn] at HF hlen hcap ⊢
  have HN := Lib.hid hn
  clear hxy hL hr hok hn
  by_cases h60 : 60 < n
  · have hf : faultOf hs = (0, 3) := by unfold faultOf; rw [if_pos (by rw [← HN.out]; exact h60)]
    rw [HXY.out] at hf
    simp only [Prod.mk.injEq] at hf
    obtain ⟨rfl, rfl⟩ := hf
    have h60' : (60 : Int) < (n : Int) := by omega
    go_enter Tryz.func121, Tryz.ntmps121
    go_wp2
    go_ret2
    exact ⟨rfl, Below.refl _ _⟩
  · have h60' : (n : Int) ≤ 60 := by omega
    go_enter Tryz.func121, Tryz.ntmps121
    go_wp2
    go_loopw [11] (fun i wr => ∃ k : Nat, i = .int .i64 k ∧ k ≤ n ∧ Hid (∀ j, j < k → headFault hs j = 0) ∧ Hid (Below w.heap.size w wr)) (fun i _ => n - (RowKit.intOf i).toNat)
    case atStart => exact ⟨0, rfl, by omega, Lib.hid (fun j hj => by omega), Lib.hid (Below.refl _ _)⟩
    case round =>
      obtain ⟨k, rfl, hkn, HALL, HB⟩ := hrel
      by_cases hlt : k < n
      · have hcall := HF.out wr k HB.out hlt
        obtain ⟨z, hz⟩ : ∃ z, headFault hs k = z := ⟨_, rfl⟩
        rw [hz] at hcall
        have HCALL := Lib.hid hcall
        by_cases h0 : z = 0
        · subst h0
          have HZ := Lib.hid hz
          clear hcall hz
          go_wp2_with fail
          refine (HCALL.out).mono ?_
          rintro e w1 ⟨rfl, hb1⟩
          have HB1 := Lib.hid hb1
          clear hb1
          go_wp2
          go_roundw
          case rel => exact ⟨k + 1, by go_num, by omega, Lib.hid (fun j hj => by
            by_cases hjk : j = k
            · rw [hjk]; exact HZ.out
            · exact HALL.out j (by omega)), Lib.hid (HB.out.trans (HB1.out.mono HB.out.size))⟩
          case measure => simp [RowKit.intOf]; omega
        · have hf := faultOf_hit (by rw [← HN.out]; exact h60) (by rw [← HN.out]; exact hlt) (by rw [hz]; exact h0) HALL.out
          rw [HXY.out, hz] at hf
          simp only [Prod.mk.injEq] at hf
          obtain ⟨rfl, rfl⟩ := hf
          have hne : (y == 0) = false := by rw [beq_eq_false_iff_ne]; exact h0
          have hne2 : (y != 0) = true := by rw [bne_iff_ne]; exact h0
          clear hcall hz
          go_wp2_with fail
          refine (HCALL.out).mono ?_
          rintro e w1 ⟨rfl, hb1⟩
          have hb2 := HB.out.trans (hb1.mono HB.out.size)
          clear hb1
          go_wp2
          go_ret2
          exact ⟨rfl, hb2⟩
      · obtain rfl : k = n := by omega
        have hge : (k : Int) ≤ (k : Int) := Int.le_refl _
        have hf := faultOf_none (by rw [← HN.out]; exact h60) (fun j hj => HALL.out j (by rw [HN.out]; exact hj))
        rw [HXY.out] at hf
        simp only [Prod.mk.injEq] at hf
        obtain ⟨rfl, rfl⟩ := hf
        go_wp2
        go_ret2
        exact ⟨rfl, HB.out⟩

set_option maxHeartbeats 1000000 in
theorem clValid_any (hs : List Head) (v : Value) (w : World) (hL : Lay w) (hr : RowG w v hs.length 2 (cellsH hs)) (hlen : hs.length ≤ 1000000) (hok : HeadsOk hs) :
    Calls Tryz.prog 103 #[v] w fun e w' => e = .returned (.int .i64 (faultOf hs).2) ∧ Below w.heap.size w w' := by
  have HF := Lib.hid (clfault_any hs v w hL hr hlen hok)
  clear hL hr
  go_enter Tryz.func103, Tryz.ntmps103
  go_wp2_with fail
  refine (HF.out).mono ?_
  rintro e w1 ⟨rfl, hb⟩
  go_wp2
  go_ret
  exact ⟨rfl, hb⟩

end Go.Proofs.YtdgckdmgplpobaaGreatDoor

/- Plain mathematics of codes: the text of a code, its numbers and its parent, the order of codes and who lies under whom; of no function of the program; no condition. -/
namespace Go.Proofs.YtdgckdmgplpobaaGreatDoor
open Go.RowKit Go.Lib Go.Proofs

def GoodN (ns : List Nat) : Prop := ns ≠ [] ∧ ns.length ≤ 4 ∧ ∀ n ∈ ns, 1 ≤ n ∧ n ≤ 99

def codeT (ns : List Nat) : ByteArray := txt (joinL 46 (ns.map decDigits))

theorem no_point {n : Nat} (h : n ≤ 99) : (46 : UInt8) ∉ decDigits n := fun hm => by
  have := dec_digits n (by omega) 46 hm
  revert this; decide

theorem numsB_digits : ∀ (ns : List Nat), (∀ n ∈ ns, 1 ≤ n ∧ n ≤ 99) → numsB ((ns.map decDigits).map txt) = some ns
  | [], _ => rfl
  | n :: ns, h => by
    have h1 := h n (by simp)
    have h2 : numW (decDigits n) = some n := numW_some.2 ⟨h1, rfl⟩
    have ih := numsB_digits ns fun m hm => h m (by simp [hm])
    simp only [List.map_cons, numsB, txt_list, h2, ih]

theorem words_codeT {ns : List Nat} (h : GoodN ns) : wordsL 46 (codeT ns).data.toList = ns.map decDigits := by
  unfold codeT
  rw [txt_list]
  refine words_join 46 _ (by simpa using h.1) fun w hw => ?_
  obtain ⟨n, hn, rfl⟩ := List.mem_map.1 hw
  exact no_point (h.2.2 n hn).2

theorem partsN_codeT {ns : List Nat} (h : GoodN ns) : partsN (codeT ns) = ns := by
  unfold partsN wordsB
  rw [words_codeT h, numsB_digits ns h.2.2]
  exact if_pos h.2.1

theorem numsB_inv : ∀ {l : List (List UInt8)} {vs : List Nat}, numsB (l.map txt) = some vs → l = vs.map decDigits ∧ ∀ n ∈ vs, 1 ≤ n ∧ n ≤ 99
  | [], vs, h => by simp [numsB] at h; subst h; simp
  | x :: l, vs, h => by
    simp only [List.map_cons, numsB, txt_list] at h
    cases hx : numW x with
    | none => rw [hx] at h; cases h
    | some v =>
      cases hl : numsB (l.map txt) with
      | none => rw [hx, hl] at h; cases h
      | some us =>
        rw [hx, hl] at h
        injection h with h
        subst h
        obtain ⟨h1, h2⟩ := numsB_inv hl
        obtain ⟨h3, h4⟩ := numW_some.1 hx
        refine ⟨by rw [List.map_cons, h4, ← h1], fun n hn => ?_⟩
        rcases List.mem_cons.1 hn with rfl | hn
        · exact h3
        · exact h2 n hn

theorem partsN_inv {s : ByteArray} (h : partsN s ≠ []) : GoodN (partsN s) ∧ s = codeT (partsN s) := by
  have hd : ∃ vs, numsB (wordsB 46 s) = some vs ∧ vs.length ≤ 4 ∧ partsN s = vs := by
    unfold partsN at h ⊢
    cases hn : numsB (wordsB 46 s) with
    | none => rw [hn] at h; exact absurd rfl h
    | some vs =>
      rw [hn] at h
      by_cases hl : vs.length ≤ 4
      · exact ⟨vs, rfl, hl, if_pos hl⟩
      · exact absurd (if_neg hl) h
  obtain ⟨vs, h1, h2, h3⟩ := hd
  obtain ⟨h4, h5⟩ := numsB_inv h1
  rw [h3] at h ⊢
  refine ⟨⟨h, h2, h5⟩, ?_⟩
  unfold codeT
  rw [← h4, joinL_words, txt_back]

theorem isCodeB_codeT {ns : List Nat} (h : GoodN ns) : isCodeB (codeT ns) = true := by
  unfold isCodeB
  rw [partsN_codeT h]
  exact decide_eq_true h.1

theorem isCodeB_inv {s : ByteArray} (h : isCodeB s = true) : ∃ ns, GoodN ns ∧ s = codeT ns := by
  unfold isCodeB at h
  exact ⟨_, partsN_inv (of_decide_eq_true h)⟩

theorem codeT_size {ns : List Nat} (h : GoodN ns) : (codeT ns).size ≤ 11 := by
  obtain ⟨h1, h2, h3⟩ := h
  have hl : ∀ n ∈ ns, (decDigits n).length ≤ 2 := fun n hn => by
    have := h3 n hn
    by_cases h10 : n < 10
    · rw [dec_one n h10]; simp
    · rw [dec_two n (by omega) (by omega)]; simp
  unfold codeT
  rw [txt_size]
  match ns, h1, h2, hl with
  | [a], _, _, hl => have := hl a (by simp); simp [joinL]; omega
  | [a, b], _, _, hl => have := hl a (by simp); have := hl b (by simp); simp [joinL]; omega
  | [a, b, c], _, _, hl => have := hl a (by simp); have := hl b (by simp); have := hl c (by simp); simp [joinL]; omega
  | [a, b, c, d], _, _, hl => have := hl a (by simp); have := hl b (by simp); have := hl c (by simp); have := hl d (by simp); simp [joinL]; omega
  | _ :: _ :: _ :: _ :: _ :: _, _, h2, _ => simp at h2

theorem joinL_snoc (c : UInt8) (x : List UInt8) : ∀ (l : List (List UInt8)), l ≠ [] → joinL c (l ++ [x]) = joinL c l ++ c :: x
  | [], h => absurd rfl h
  | [a], _ => rfl
  | a :: b :: t, _ => by
    have ih := joinL_snoc c x (b :: t) (by simp)
    show a ++ c :: joinL c ((b :: t) ++ [x]) = (a ++ c :: joinL c (b :: t)) ++ c :: x
    rw [ih]; simp

theorem last_point {s : ByteArray} {a d : List UInt8} (hs : s.data.toList = a ++ 46 :: d) (hd : (46 : UInt8) ∉ d) : lastIndexByte s 46 = a.length := by
  have hsz : s.size = a.length + 1 + d.length := by rw [size_list, hs]; simp; omega
  have hget : ∀ j, j < s.size → s.data[j]! = (s.data.toList.getD j 0) := fun j hj => by
    have : j < s.data.size := hj
    rw [getElem!_pos s.data j this]
    simp [List.getD, Array.getElem?_eq_getElem this]
  rcases lastIndexByte_spec s 46 with ⟨_, h⟩ | ⟨i, hi, h1, h2, h3⟩
  · have := h a.length (by omega)
    rw [hget _ (by omega), hs] at this
    simp [List.getD] at this
  · rw [h1]
    by_cases hlt : i < a.length
    · have := h3 a.length hlt (by omega)
      rw [hget _ (by omega), hs] at this
      simp [List.getD] at this
    · by_cases hgt : a.length < i
      · exfalso
        rw [hget i hi, hs] at h2
        have e : (a ++ 46 :: d).getD i 0 = d.getD (i - a.length - 1) 0 := by
          simp only [List.getD]
          rw [List.getElem?_append_right (by omega), show i - a.length = (i - a.length - 1) + 1 by omega, List.getElem?_cons_succ]
          simp
        rw [e] at h2
        have hl : i - a.length - 1 < d.length := by omega
        rw [List.getD, List.getElem?_eq_getElem hl] at h2
        simp only [Option.getD_some] at h2
        have : d[i - a.length - 1] = 46 := UInt8.toNat_inj.1 (by have e46 : (46 : UInt8).toNat = 46 := rfl; omega)
        exact hd (this ▸ List.getElem_mem hl)
      · omega

theorem no_point_at {s : ByteArray} (h : (46 : UInt8) ∉ s.data.toList) : lastIndexByte s 46 = -1 := by
  rcases lastIndexByte_spec s 46 with ⟨h1, _⟩ | ⟨i, hi, h1, h2, h3⟩
  · exact h1
  · exfalso
    have hl : i < s.data.size := hi
    rw [getElem!_pos s.data i hl] at h2
    have : s.data[i] = 46 := UInt8.toNat_inj.1 (by have e46 : (46 : UInt8).toNat = 46 := rfl; omega)
    exact h (this ▸ by simp)

theorem parentB_codeT {ns : List Nat} (h : GoodN ns) : parentB (codeT ns) = codeT ns.dropLast := by
  obtain ⟨h1, h2, h3⟩ := h
  obtain ⟨x, hx⟩ : ∃ x, ns = ns.dropLast ++ [x] := ⟨ns.getLast h1, (List.dropLast_concat_getLast h1).symm⟩
  generalize hl : ns.dropLast = l at hx ⊢
  clear hl
  subst hx
  have hx99 := (h3 x (by simp)).2
  unfold parentB
  by_cases hnil : l = []
  · subst hnil
    have hno : (46 : UInt8) ∉ (codeT [x]).data.toList := by
      unfold codeT
      rw [txt_list]
      exact no_point hx99
    show (codeT [x]).extract 0 (lastIndexByte (codeT [x]) 46).toNat = _
    rw [no_point_at hno, extract_front]
    rfl
  · have hdata : (codeT (l ++ [x])).data.toList = joinL 46 (l.map decDigits) ++ 46 :: decDigits x := by
      unfold codeT
      rw [txt_list, List.map_append]
      exact joinL_snoc 46 _ _ (by simpa using hnil)
    rw [last_point hdata (no_point hx99), extract_front, hdata]
    unfold codeT
    rw [Int.toNat_natCast, List.take_left]

theorem cmpCode_codeT {a b : List Nat} (ha : GoodN a) (hb : GoodN b) : cmpCode (codeT a) (codeT b) = cmpL (asInts a) (asInts b) := by
  unfold cmpCode
  rw [partsN_codeT ha, partsN_codeT hb, if_neg (fun h => ha.1 h.1)]

theorem asInts_inj {x y : List Nat} (h : asInts x = asInts y) : x = y := by
  have := congrArg (List.map Int.toNat) h
  simpa [asInts, Function.comp_def] using this

end Go.Proofs.YtdgckdmgplpobaaGreatDoor

/- The contract of classification.Children: the codes of a list of which a code is the parent; for lists of up to 10^6 headings with texts of up to 10^6 bytes. -/
namespace Go.Proofs.YtdgckdmgplpobaaGreatDoor
open Go.RowKit Go.Lib Go.Proofs

end Go.Proofs.YtdgckdmgplpobaaGreatDoor

/- A map from strings to bools that the call has made, read as a function: the laws of make, store, delete and look-up; for keys of up to 2^47 bytes. -/
namespace Go.Proofs.YtdgckdmgplpobaaGreatDoor
open Go.RowKit Go.Lib Go.Proofs Go.Maps

def MapSB (w : World) (b n : Nat) (f : ByteArray → Bool) : Prop :=
  ∃ D : DataW Unit, w.ownsMap Tryz.prog 9 (plainElem Tryz.prog 4) b n D ∧ IsMap D ∧ ∀ s : ByteArray, D.atKey (.string s.data.toList) (.lit (.bool false)) = .lit (.bool (f s))

theorem MapSB.lt {w : World} {b n : Nat} {f : ByteArray → Bool} (h : MapSB w b n f) : b < w.heap.size := by obtain ⟨D, h1, _⟩ := h; exact h1.lt
theorem MapSB.kept {w w' : World} {b n : Nat} {f : ByteArray → Bool} {row : Option Nat} (h : MapSB w b n f) (hg : w.grownBy w' row) (hne : some b ≠ row) : MapSB w' b n f := by
  obtain ⟨D, h1, h2⟩ := h; exact ⟨D, h1.kept hg hne, h2⟩
theorem MapSB.made (w : World) : MapSB (w.alloc (.map #[] 0)) w.heap.size 0 fun _ => false :=
  ⟨.map [], World.ownsMap_made w _ _ _, isMap_empty, fun _ => rfl⟩
theorem MapSB.congr {w : World} {b n : Nat} {f g : ByteArray → Bool} (h : MapSB w b n f) (hfg : ∀ s, f s = g s) : MapSB w b n g := by
  obtain ⟨D, h1, h2, h3⟩ := h; exact ⟨D, h1, h2, fun s => by rw [h3, hfg]⟩

end Go.Proofs.YtdgckdmgplpobaaGreatDoor

/- The contract of classification.Leaves: the codes of a list that lie under another one, or all for "", and are the parent of none; for lists of up to 10^6 headings with texts of up to 10^6 bytes. -/
namespace Go.Proofs.YtdgckdmgplpobaaGreatDoor
open Go.RowKit Go.Lib Go.Proofs

end Go.Proofs.YtdgckdmgplpobaaGreatDoor

/- The contract of treasurymake.Texts: whether two lists of texts are equal; for lists of up to 10^6 texts. -/
namespace Go.Proofs.YtdgckdmgplpobaaGreatDoor
open Go.RowKit Go.Lib Go.Proofs

end Go.Proofs.YtdgckdmgplpobaaGreatDoor
