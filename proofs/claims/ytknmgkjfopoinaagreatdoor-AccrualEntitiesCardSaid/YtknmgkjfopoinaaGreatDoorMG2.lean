/- Texts of one claim, merged: Shelf, ShelfA, Lib, Words, ShelfB, Split, Number. -/
import Derived.Shelf.Strconv.Atoi
import Derived.Shelf.Strconv.Itoa0
import Derived.Shelf.Strconv.Itoa1
import Derived.Shelf.LaysM
import Derived.Shelf.Strconv.Itoa2
import Derived.Shelf.Strconv.Itoa3
import Derived.Shelf.Strconv.AtoiErrFast
import Derived.Shelf.Strconv.ParseIntEmpty
import Derived.Shelf.Strconv.AtoiFail
import Derived.Shelf.Strconv.Clone
import Derived.Shelf.Strconv.SyntaxError
import Derived.Shelf.LaysC
import Derived.Shelf.Strconv.ToError
import Derived.Shelf.Strconv.Lower
import Derived.Shelf.Strconv.ParseUint10
import Derived.Shelf.Strconv.ParseUint10Empty
import Derived.Shelf.Strconv.ParseUint10Any
import Derived.Shelf.Strconv.ParseInt10
import Derived.Shelf.Strconv.AtoiLong
import Derived.Shelf.Strconv.AtoiInnerAll
import Derived.Shelf.Strconv.RangeError
import Derived.Shelf.Strconv.ToErrorRange
import Derived.Shelf.Strconv.AtoiAll
import Derived.Shelf.Strconv.ErrVarAll
import Derived.Shelf.Strings.Search1
import Derived.Shelf.Strings.Search2
import Derived.Shelf.Strings.Search3
import Derived.Shelf.Strings.Shaped
import Derived.Shelf.Unicode.DecodeSlow
import Derived.Test.YtknmgkjfopoinaaGreatDoorProg
import Derived.Test.YtknmgkjfopoinaaGreatDoorMG1
import Derived.Lib.Split
import Derived.Lib.AtoiAll
import Derived.Lib.IndexBytes
import Derived.Test.YtknmgkjfopoinaaGreatDoorMSeq
/- The contracts of Go's library that this seat's texts use, laid at its translation by the kit's commands; no condition beyond each contract's own. -/
set_option linter.unusedSimpArgs false
set_option linter.unusedVariables false
namespace Go.Proofs
open Go.Shelf
def Tryz.laysM171_ren : Go.Shelf.Ren := ⟨fun | 171 => 84 | 243 => 90 | 246 => 98 | 283 => 106 | 284 => 107 | 285 => 108 | 286 => 109 | 129 => 115 | 317 => 114 | 318 => 116 | 319 => 117 | 320 => 118 | 337 => 119 | 338 => 120 | n => n, fun | 3 => 3 | 9 => 9 | 2 => 2 | 4 => 4 | 171 => 139 | 0 => 0 | 53 => 132 | 37 => 119 | 5 => 5 | 173 => 142 | 212 => 153 | 51 => 144 | 20 => 20 | 213 => 154 | 46 => 127 | 232 => 157 | 233 => 158 | n => n, fun | 17 => 5 | 18 => 6 | 19 => 7 | n => n⟩
theorem Tryz.laysM171 : Go.Proofs.LaysM.n171 Tryz.prog Tryz.laysM171_ren := {
  mixed := by kernel_rfl
  f129 := Tryz.func115.trans (congrArg some (by kernel_rfl))
  f171 := Tryz.func84.trans (congrArg some (by kernel_rfl))
  f243 := Tryz.func90.trans (congrArg some (by kernel_rfl))
  f246 := Tryz.func98.trans (congrArg some (by kernel_rfl))
  f283 := Tryz.func106.trans (congrArg some (by kernel_rfl))
  f284 := Tryz.func107.trans (congrArg some (by kernel_rfl))
  f285 := Tryz.func108.trans (congrArg some (by kernel_rfl))
  f286 := Tryz.func109.trans (congrArg some (by kernel_rfl))
  f317 := Tryz.func114.trans (congrArg some (by kernel_rfl))
  f318 := Tryz.func116.trans (congrArg some (by kernel_rfl))
  f319 := Tryz.func117.trans (congrArg some (by kernel_rfl))
  f320 := Tryz.func118.trans (congrArg some (by kernel_rfl))
  f337 := Tryz.func119.trans (congrArg some (by kernel_rfl))
  f338 := Tryz.func120.trans (congrArg some (by kernel_rfl))
  t0 := Tryz.underlying0
  a0 := Tryz.isAgg0
  z0 := Tryz.sizeOf0
  v0 := Tryz.zeroValue0
  t2 := Tryz.underlying2
  a2 := Tryz.isAgg2
  z2 := Tryz.sizeOf2
  v2 := Tryz.zeroValue2
  t3 := Tryz.underlying3
  a3 := Tryz.isAgg3
  z3 := Tryz.sizeOf3
  v3 := Tryz.zeroValue3
  t4 := Tryz.underlying4
  a4 := Tryz.isAgg4
  z4 := Tryz.sizeOf4
  v4 := Tryz.zeroValue4
  t5 := Tryz.underlying5
  a5 := Tryz.isAgg5
  z5 := Tryz.sizeOf5
  v5 := Tryz.zeroValue5
  t9 := Tryz.underlying9
  a9 := Tryz.isAgg9
  z9 := Tryz.sizeOf9
  v9 := Tryz.zeroValue9
  t20 := Tryz.underlying20
  a20 := Tryz.isAgg20
  z20 := Tryz.sizeOf20
  v20 := Tryz.zeroValue20
  t37 := Tryz.underlying119
  a37 := Tryz.isAgg119
  z37 := Tryz.sizeOf119
  v37 := Tryz.zeroValue119
  t46 := Tryz.underlying127
  a46 := Tryz.isAgg127
  z46 := Tryz.sizeOf127
  v46 := Tryz.zeroValue127
  t51 := Tryz.underlying144
  a51 := Tryz.isAgg144
  z51 := Tryz.sizeOf144
  v51 := Tryz.zeroValue144
  t53 := Tryz.underlying132
  a53 := Tryz.isAgg132
  z53 := Tryz.sizeOf132
  v53 := Tryz.zeroValue132
  t171 := Tryz.underlying139
  a171 := Tryz.isAgg139
  z171 := Tryz.sizeOf139
  v171 := Tryz.zeroValue139
  t173 := Tryz.underlying142
  a173 := Tryz.isAgg142
  z173 := Tryz.sizeOf142
  v173 := Tryz.zeroValue142
  t212 := Tryz.underlying153
  a212 := Tryz.isAgg153
  z212 := Tryz.sizeOf153
  v212 := Tryz.zeroValue153
  t213 := Tryz.underlying154
  a213 := Tryz.isAgg154
  z213 := Tryz.sizeOf154
  t232 := Tryz.underlying157
  a232 := Tryz.isAgg157
  z232 := Tryz.sizeOf157
  v232 := Tryz.zeroValue157
  t233 := Tryz.underlying158
  a233 := Tryz.isAgg158
  z233 := Tryz.sizeOf158
  v233 := Tryz.zeroValue158
  g17 := by kernel_rfl
  g18 := by kernel_rfl
  g19 := by kernel_rfl
  i0 := by kernel_rfl
  i2 := by kernel_rfl
  i3 := by kernel_rfl
  i4 := by kernel_rfl
  i5 := by kernel_rfl
  i9 := by kernel_rfl
  i20 := by kernel_rfl
  i37 := by kernel_rfl
  i46 := by kernel_rfl
  i51 := by kernel_rfl
  i53 := by kernel_rfl
  i171 := by kernel_rfl
  i173 := by kernel_rfl
  i212 := by kernel_rfl
  i232 := by kernel_rfl
  i233 := by kernel_rfl
  m17 := by kernel_rfl
  m18 := by kernel_rfl
  m19 := by kernel_rfl }
open Go.RowKit Go.Sort Go.Lib in
/-- strconv.Itoa: "Itoa is equivalent to FormatInt(int64(i), 10).": i's DECIMAL NUMERAL ('Lib.itoa': a '-' where i is negative, then the digits), FOR EVERY int. The world behind the call: the world before it, new blocks behind the heap (the library's 'var a [24]byte'), draws. (LAID: no walk: one application.) -/
theorem Tryz.strconv_Itoa (n : Int) (h0 : -9223372036854775808 ≤ n) (h1 : n ≤ 9223372036854775807) (w : World) (htab : Lib.TabIs Tryz.prog w "internal/strconv.uint64pow10" .u64 Lib.pow10Tab) :
    Calls Tryz.prog 84 #[.int .i64 n] w fun e w' => e = .returned (.string ⟨(Lib.itoa n).toArray⟩) ∧ ∃ k os, w' = grow (w.drewN k) os := Any.strconv_Itoa Tryz.laysM171 n h0 h1 w htab
def Tryz.lays171_ren : Go.Shelf.Ren := ⟨fun | 171 => 84 | 243 => 90 | 246 => 98 | 283 => 106 | 284 => 107 | 285 => 108 | 286 => 109 | 129 => 115 | 317 => 114 | 318 => 116 | 319 => 117 | 320 => 118 | 337 => 119 | 338 => 120 | n => n, fun | 3 => 3 | 9 => 9 | 2 => 2 | 4 => 4 | 171 => 139 | 0 => 0 | 53 => 132 | 37 => 119 | 5 => 5 | 173 => 142 | 212 => 153 | 51 => 144 | 20 => 20 | 213 => 154 | 46 => 127 | 232 => 157 | 233 => 158 | n => n, fun | 17 => 5 | 18 => 6 | 19 => 7 | n => n⟩
theorem Tryz.lays171 : Go.Proofs.Lays.n171 Tryz.prog Tryz.lays171_ren := {
  mixed := by kernel_rfl
  f129 := Tryz.func115.trans (congrArg some (by kernel_rfl))
  f171 := Tryz.func84.trans (congrArg some (by kernel_rfl))
  f243 := Tryz.func90.trans (congrArg some (by kernel_rfl))
  f246 := Tryz.func98.trans (congrArg some (by kernel_rfl))
  f283 := Tryz.func106.trans (congrArg some (by kernel_rfl))
  f284 := Tryz.func107.trans (congrArg some (by kernel_rfl))
  f285 := Tryz.func108.trans (congrArg some (by kernel_rfl))
  f286 := Tryz.func109.trans (congrArg some (by kernel_rfl))
  f317 := Tryz.func114.trans (congrArg some (by kernel_rfl))
  f318 := Tryz.func116.trans (congrArg some (by kernel_rfl))
  f319 := Tryz.func117.trans (congrArg some (by kernel_rfl))
  f320 := Tryz.func118.trans (congrArg some (by kernel_rfl))
  f337 := Tryz.func119.trans (congrArg some (by kernel_rfl))
  f338 := Tryz.func120.trans (congrArg some (by kernel_rfl))
  t0 := Tryz.underlying0
  a0 := Tryz.isAgg0
  z0 := Tryz.sizeOf0
  v0 := Tryz.zeroValue0
  t2 := Tryz.underlying2
  a2 := Tryz.isAgg2
  z2 := Tryz.sizeOf2
  v2 := Tryz.zeroValue2
  t3 := Tryz.underlying3
  a3 := Tryz.isAgg3
  z3 := Tryz.sizeOf3
  v3 := Tryz.zeroValue3
  t4 := Tryz.underlying4
  a4 := Tryz.isAgg4
  z4 := Tryz.sizeOf4
  v4 := Tryz.zeroValue4
  t5 := Tryz.underlying5
  a5 := Tryz.isAgg5
  z5 := Tryz.sizeOf5
  v5 := Tryz.zeroValue5
  t9 := Tryz.underlying9
  a9 := Tryz.isAgg9
  z9 := Tryz.sizeOf9
  v9 := Tryz.zeroValue9
  t20 := Tryz.underlying20
  a20 := Tryz.isAgg20
  z20 := Tryz.sizeOf20
  v20 := Tryz.zeroValue20
  t37 := Tryz.underlying119
  a37 := Tryz.isAgg119
  z37 := Tryz.sizeOf119
  v37 := Tryz.zeroValue119
  t46 := Tryz.underlying127
  a46 := Tryz.isAgg127
  z46 := Tryz.sizeOf127
  v46 := Tryz.zeroValue127
  t51 := Tryz.underlying144
  a51 := Tryz.isAgg144
  z51 := Tryz.sizeOf144
  v51 := Tryz.zeroValue144
  t53 := Tryz.underlying132
  a53 := Tryz.isAgg132
  z53 := Tryz.sizeOf132
  v53 := Tryz.zeroValue132
  t171 := Tryz.underlying139
  a171 := Tryz.isAgg139
  z171 := Tryz.sizeOf139
  v171 := Tryz.zeroValue139
  t173 := Tryz.underlying142
  a173 := Tryz.isAgg142
  z173 := Tryz.sizeOf142
  v173 := Tryz.zeroValue142
  t212 := Tryz.underlying153
  a212 := Tryz.isAgg153
  z212 := Tryz.sizeOf153
  v212 := Tryz.zeroValue153
  t213 := Tryz.underlying154
  a213 := Tryz.isAgg154
  z213 := Tryz.sizeOf154
  t232 := Tryz.underlying157
  a232 := Tryz.isAgg157
  z232 := Tryz.sizeOf157
  v232 := Tryz.zeroValue157
  t233 := Tryz.underlying158
  a233 := Tryz.isAgg158
  z233 := Tryz.sizeOf158
  v233 := Tryz.zeroValue158
  g17 := by kernel_rfl
  g18 := by kernel_rfl
  g19 := by kernel_rfl }
open Go.RowKit Go.Sort Go.Lib in
/-- THE ROAD WITHOUT THE TABLE: 0 <= i < 100: NO PREMISE ON THE WORLD, AND THE WORLD IS AS IT WAS: a row that keeps its argument in that range need list no table ('laid = []'). (LAID: no walk: one application.) -/
theorem Tryz.strconv_Itoa_small (i : Nat) (hi : i < 100) (w : World) :
    Calls Tryz.prog 84 #[.int .i64 i] w fun e w' => e = .returned (.string ⟨(Lib.decDigits i).toArray⟩) ∧ w' = w := Any.strconv_Itoa_small Tryz.lays171 i hi w
end Go.Proofs

/- The contracts of Go's library that this seat's texts use, laid at its translation by the kit's commands; no condition beyond each contract's own. -/
namespace Go.Proofs
open Go.Shelf
def Tryz.laysC172_ren : Go.Shelf.Ren := ⟨fun | 172 => 82 | 244 => 88 | 245 => 89 | 247 => 93 | 279 => 94 | 280 => 95 | 281 => 96 | 282 => 97 | 287 => 103 | 316 => 104 | 171 => 84 | 205 => 105 | 321 => 112 | 322 => 113 | 243 => 90 | 246 => 98 | 283 => 106 | 284 => 107 | 285 => 108 | 286 => 109 | 129 => 115 | 317 => 114 | 318 => 116 | 319 => 117 | 320 => 118 | 337 => 119 | 338 => 120 | n => n, fun | 9 => 9 | 3 => 3 | 75 => 109 | 76 => 110 | 4 => 4 | 5 => 5 | 167 => 118 | 37 => 119 | 0 => 0 | 85 => 120 | 2 => 2 | 168 => 122 | 53 => 132 | 175 => 133 | 46 => 127 | 210 => 137 | 127 => 148 | 145 => 151 | 143 => 149 | 21 => 21 | 171 => 139 | 173 => 142 | 212 => 153 | 51 => 144 | 20 => 20 | 213 => 154 | 232 => 157 | 233 => 158 | 80 => 82 | n => n, fun | 15 => 3 | 16 => 4 | 17 => 5 | 18 => 6 | 19 => 7 | n => n⟩
theorem Tryz.laysC172 : Go.Proofs.LaysC.n172 Tryz.prog Tryz.laysC172_ren := {
  mixed := by kernel_rfl
  f129 := Tryz.func115.trans (congrArg some (by kernel_rfl))
  f171 := Tryz.func84.trans (congrArg some (by kernel_rfl))
  f172 := Tryz.func82.trans (congrArg some (by kernel_rfl))
  f205 := Tryz.func105.trans (congrArg some (by kernel_rfl))
  f243 := Tryz.func90.trans (congrArg some (by kernel_rfl))
  f244 := Tryz.func88.trans (congrArg some (by kernel_rfl))
  f245 := Tryz.func89.trans (congrArg some (by kernel_rfl))
  f246 := Tryz.func98.trans (congrArg some (by kernel_rfl))
  f247 := Tryz.func93.trans (congrArg some (by kernel_rfl))
  f279 := Tryz.func94.trans (congrArg some (by kernel_rfl))
  f280 := Tryz.func95.trans (congrArg some (by kernel_rfl))
  f281 := Tryz.func96.trans (congrArg some (by kernel_rfl))
  f282 := Tryz.func97.trans (congrArg some (by kernel_rfl))
  f283 := Tryz.func106.trans (congrArg some (by kernel_rfl))
  f284 := Tryz.func107.trans (congrArg some (by kernel_rfl))
  f285 := Tryz.func108.trans (congrArg some (by kernel_rfl))
  f286 := Tryz.func109.trans (congrArg some (by kernel_rfl))
  f287 := Tryz.func103.trans (congrArg some (by kernel_rfl))
  f316 := Tryz.func104.trans (congrArg some (by kernel_rfl))
  f317 := Tryz.func114.trans (congrArg some (by kernel_rfl))
  f318 := Tryz.func116.trans (congrArg some (by kernel_rfl))
  f319 := Tryz.func117.trans (congrArg some (by kernel_rfl))
  f320 := Tryz.func118.trans (congrArg some (by kernel_rfl))
  f321 := Tryz.func112.trans (congrArg some (by kernel_rfl))
  f322 := Tryz.func113.trans (congrArg some (by kernel_rfl))
  f337 := Tryz.func119.trans (congrArg some (by kernel_rfl))
  f338 := Tryz.func120.trans (congrArg some (by kernel_rfl))
  t0 := Tryz.underlying0
  a0 := Tryz.isAgg0
  z0 := Tryz.sizeOf0
  v0 := Tryz.zeroValue0
  t2 := Tryz.underlying2
  a2 := Tryz.isAgg2
  z2 := Tryz.sizeOf2
  v2 := Tryz.zeroValue2
  t3 := Tryz.underlying3
  a3 := Tryz.isAgg3
  z3 := Tryz.sizeOf3
  v3 := Tryz.zeroValue3
  t4 := Tryz.underlying4
  a4 := Tryz.isAgg4
  z4 := Tryz.sizeOf4
  v4 := Tryz.zeroValue4
  t5 := Tryz.underlying5
  a5 := Tryz.isAgg5
  z5 := Tryz.sizeOf5
  v5 := Tryz.zeroValue5
  t9 := Tryz.underlying9
  a9 := Tryz.isAgg9
  z9 := Tryz.sizeOf9
  v9 := Tryz.zeroValue9
  t20 := Tryz.underlying20
  a20 := Tryz.isAgg20
  z20 := Tryz.sizeOf20
  v20 := Tryz.zeroValue20
  t21 := Tryz.underlying21
  a21 := Tryz.isAgg21
  z21 := Tryz.sizeOf21
  v21 := Tryz.zeroValue21
  t37 := Tryz.underlying119
  a37 := Tryz.isAgg119
  z37 := Tryz.sizeOf119
  v37 := Tryz.zeroValue119
  t46 := Tryz.underlying127
  a46 := Tryz.isAgg127
  z46 := Tryz.sizeOf127
  v46 := Tryz.zeroValue127
  t51 := Tryz.underlying144
  a51 := Tryz.isAgg144
  z51 := Tryz.sizeOf144
  v51 := Tryz.zeroValue144
  t53 := Tryz.underlying132
  a53 := Tryz.isAgg132
  z53 := Tryz.sizeOf132
  v53 := Tryz.zeroValue132
  t75 := Tryz.underlying109
  a75 := Tryz.isAgg109
  z75 := Tryz.sizeOf109
  v75 := Tryz.zeroValue109
  t76 := Tryz.underlying110
  a76 := Tryz.isAgg110
  z76 := Tryz.sizeOf110
  v76 := Tryz.zeroValue110
  t85 := Tryz.underlying120
  a85 := Tryz.isAgg120
  z85 := Tryz.sizeOf120
  v85 := Tryz.zeroValue120
  t127 := Tryz.underlying148
  a127 := Tryz.isAgg148
  z127 := Tryz.sizeOf148
  v127 := Tryz.zeroValue148
  t143 := Tryz.underlying149
  a143 := Tryz.isAgg149
  z143 := Tryz.sizeOf149
  v143 := Tryz.zeroValue149
  t145 := Tryz.underlying151
  a145 := Tryz.isAgg151
  z145 := Tryz.sizeOf151
  v145 := Tryz.zeroValue151
  t167 := Tryz.underlying118
  a167 := Tryz.isAgg118
  z167 := Tryz.sizeOf118
  v167 := Tryz.zeroValue118
  t168 := Tryz.underlying122
  a168 := Tryz.isAgg122
  z168 := Tryz.sizeOf122
  v168 := Tryz.zeroValue122
  t171 := Tryz.underlying139
  a171 := Tryz.isAgg139
  z171 := Tryz.sizeOf139
  v171 := Tryz.zeroValue139
  t173 := Tryz.underlying142
  a173 := Tryz.isAgg142
  z173 := Tryz.sizeOf142
  v173 := Tryz.zeroValue142
  t175 := Tryz.underlying133
  a175 := Tryz.isAgg133
  z175 := Tryz.sizeOf133
  v175 := Tryz.zeroValue133
  t210 := Tryz.underlying137
  a210 := Tryz.isAgg137
  z210 := Tryz.sizeOf137
  v210 := Tryz.zeroValue137
  t212 := Tryz.underlying153
  a212 := Tryz.isAgg153
  z212 := Tryz.sizeOf153
  v212 := Tryz.zeroValue153
  t213 := Tryz.underlying154
  a213 := Tryz.isAgg154
  z213 := Tryz.sizeOf154
  t232 := Tryz.underlying157
  a232 := Tryz.isAgg157
  z232 := Tryz.sizeOf157
  v232 := Tryz.zeroValue157
  t233 := Tryz.underlying158
  a233 := Tryz.isAgg158
  z233 := Tryz.sizeOf158
  v233 := Tryz.zeroValue158
  g15 := by kernel_rfl
  g16 := by kernel_rfl
  g17 := by kernel_rfl
  g18 := by kernel_rfl
  g19 := by kernel_rfl
  t80 := Tryz.underlying82
  a80 := Tryz.isAgg82
  z80 := Tryz.sizeOf82
  v80 := Tryz.zeroValue82
  i0 := by kernel_rfl
  i2 := by kernel_rfl
  i3 := by kernel_rfl
  i4 := by kernel_rfl
  i5 := by kernel_rfl
  i9 := by kernel_rfl
  i20 := by kernel_rfl
  i21 := by kernel_rfl
  i37 := by kernel_rfl
  i46 := by kernel_rfl
  i51 := by kernel_rfl
  i53 := by kernel_rfl
  i75 := by kernel_rfl
  i76 := by kernel_rfl
  i80 := by kernel_rfl
  i85 := by kernel_rfl
  i127 := by kernel_rfl
  i143 := by kernel_rfl
  i145 := by kernel_rfl
  i167 := by kernel_rfl
  i168 := by kernel_rfl
  i171 := by kernel_rfl
  i173 := by kernel_rfl
  i175 := by kernel_rfl
  i210 := by kernel_rfl
  i212 := by kernel_rfl
  i232 := by kernel_rfl
  i233 := by kernel_rfl
  m15 := by kernel_rfl
  m16 := by kernel_rfl
  m17 := by kernel_rfl
  m18 := by kernel_rfl
  m19 := by kernel_rfl
  c0 := by kernel_rfl
  c2 := by kernel_rfl
  c3 := by kernel_rfl
  c4 := by kernel_rfl
  c5 := by kernel_rfl
  c9 := by kernel_rfl
  c20 := by kernel_rfl
  c21 := by kernel_rfl
  c37 := by kernel_rfl
  c46 := by kernel_rfl
  c51 := by kernel_rfl
  c53 := by kernel_rfl
  c75 := by kernel_rfl
  c76 := by kernel_rfl
  c80 := by kernel_rfl
  c85 := by kernel_rfl
  c127 := by kernel_rfl
  c143 := by kernel_rfl
  c145 := by kernel_rfl
  c167 := by kernel_rfl
  c168 := by kernel_rfl
  c171 := by kernel_rfl
  c173 := by kernel_rfl
  c175 := by kernel_rfl
  c210 := by kernel_rfl
  c212 := by kernel_rfl
  c213 := by kernel_rfl
  c232 := by kernel_rfl
  c233 := by kernel_rfl }
open Go.RowKit in
/-- strconv.Atoi, AT EVERY STRING THAT SPELLS AN int ('Lib.atoiAll .. = .ok v'; of whatever length: leading zeros count): v, AND NO ERROR. The world: as it was, or with the one new row that '[]byte(..)' lays. (LAID: no walk: one application.) -/
theorem Tryz.strconv_Atoi_ok (s : ByteArray) (hmax : s.size ≤ 9223372036854775806) (v : Int) (h : Lib.atoiAll s.data.toList = .ok v) (w : World) :
    Calls Tryz.prog 82 #[.string s] w fun e w' => e = .returned (.tuple #[.int .i64 v, .nilIface]) ∧ (w' = w ∨ ∃ t, w' = Lib.bytesWorld w 5 t) := Any.strconv_Atoi_ok Tryz.laysC172 s hmax v h w
open Go.RowKit in
theorem Tryz.strconv_Atoi_syntax_var (s : ByteArray) (hlim : s.size ≤ 281474976710656) (h1 : ∀ v, Lib.atoiAll s.data.toList ≠ .ok v) (h2 : Lib.atoiAll s.data.toList ≠ .range) (tp : TypeId) (p : Value) (w : World) (hvar : w.var? Tryz.prog "strconv.ErrSyntax" = some #[.iface tp p]) :
    Calls Tryz.prog 82 #[.string s] w fun e w' => ∃ N, e = .returned (.tuple #[.int .i64 0, .iface 122 (.pointer (some ⟨N, 0, none⟩))]) ∧ w.heap.size ≤ N ∧ w'.heap[N]? = some (.cells #[.string ⟨#[65, 116, 111, 105]⟩, .string s, .iface tp p] 137 (0, 0)) ∧ Below w.heap.size w w' := Any.strconv_Atoi_syntax_var Tryz.laysC172 s hlim (by cases hh : Lib.atoiAll s.data.toList <;> first | rfl | exact absurd hh (h1 _) | exact absurd hh h2) tp p w hvar
open Go.RowKit in
theorem Tryz.strconv_Atoi_range_var (s : ByteArray) (hlim : s.size ≤ 281474976710656) (h : Lib.atoiAll s.data.toList = .range) (tp : TypeId) (p : Value) (w : World) (hvar : w.var? Tryz.prog "strconv.ErrRange" = some #[.iface tp p]) :
    Calls Tryz.prog 82 #[.string s] w fun e w' => ∃ N, e = .returned (.tuple #[.int .i64 (Lib.atoiSat s.data.toList), .iface 122 (.pointer (some ⟨N, 0, none⟩))]) ∧ w.heap.size ≤ N ∧ w'.heap[N]? = some (.cells #[.string ⟨#[65, 116, 111, 105]⟩, .string s, .iface tp p] 137 (0, 0)) ∧ Below w.heap.size w w' := Any.strconv_Atoi_range_var Tryz.laysC172 s hlim h tp p w hvar
end Go.Proofs

/- What Go's library serves to every layer: the digits of a number, strconv.Itoa and strconv.Atoi by their contracts, and the variables that they read as the program's text lays them; no condition beyond each contract's own. -/
namespace Go.Proofs.YtknmgkjfopoinaaGreatDoor
open Go.RowKit Go.Lib Go.Proofs

def decB (n : Nat) : ByteArray := ⟨(decDigits n).toArray⟩

theorem dec_one (n : Nat) (h : n < 10) : decDigits n = [UInt8.ofNat (48 + n)] := by rw [decDigits, dif_pos h]
theorem dec_two (n : Nat) (h : 10 ≤ n) (h1 : n < 100) : decDigits n = [UInt8.ofNat (48 + n / 10), UInt8.ofNat (48 + n % 10)] := by
  rw [decDigits, dif_neg (by omega), dec_one _ (by omega)]
  rfl

theorem decB_size (n : Nat) (h : n < 1000) : (decB n).size ≤ 3 := by
  have e : (decB n).size = (decDigits n).length := by unfold decB; simp [ByteArray.size]
  rw [e]
  by_cases h1 : n < 10
  · rw [dec_one n h1]; simp
  · by_cases h2 : n < 100
    · rw [dec_two n (by omega) h2]; simp
    · rw [decDigits, dif_neg (by omega), dec_two _ (by omega) (by omega)]; simp
theorem itoa_small (n : Nat) (w : World) (h : n < 100) : Calls Tryz.prog 84 #[.int .i64 (n : Int)] w fun e w' => e = .returned (.string (decB n)) ∧ w = w' :=
  (Tryz.strconv_Itoa_small n h w).mono fun _ _ ⟨h1, h2⟩ => ⟨h1, h2.symm⟩

/-- Itoa at y, in every world that grew out of w. -/
def ItoaAt (w : World) (y : Nat) : Prop := ∀ W, Below w.heap.size w W → Calls Tryz.prog 84 #[.int .i64 (y : Int)] W fun e w' => e = .returned (.string (decB y)) ∧ Below W.heap.size W w'

theorem itoaAt_small (w : World) (y : Nat) (h : y < 100) : ItoaAt w y := fun W _ => (Tryz.strconv_Itoa_small y h W).mono fun e w' ⟨h1, h2⟩ => ⟨h1, by rw [h2]; exact Below.refl _ _⟩

theorem grow_below (W : World) (k : Nat) (os : Array Obj) : Below W.heap.size W (Sort.grow (W.drewN k) os) :=
  ⟨rfl, rfl, rfl, by simp [Sort.grow, World.drewN], fun j hj => Sort.heap_grow_old (W.drewN k) os hj⟩

/-- A variable that has not turned. -/
theorem var_below {P : Program} {w w' : World} {name : String} {cs : Array Value} (h : w.var? P name = some cs) (hb : ∀ g, P.globalNamed name = some g → w'.heap[g]? = w.heap[g]?) : w'.var? P name = some cs := by
  unfold World.var? at h ⊢
  cases hg : P.globalNamed name with
  | none => rw [hg] at h; cases h
  | some g =>
    rw [hg] at h
    simp only [Option.bind_some] at h ⊢
    rw [hb g hg]
    exact h

theorem var_lt {P : Program} {w : World} {name : String} {cs : Array Value} (h : w.var? P name = some cs) {g : Nat} (hg : P.globalNamed name = some g) : g < w.heap.size := by
  unfold World.var? at h
  rw [hg] at h
  simp only [Option.bind_some] at h
  by_cases hlt : g < w.heap.size
  · exact hlt
  · rw [Array.getElem?_eq_none (by omega)] at h; cases h

theorem itoaAt_tab (w : World) (y : Nat) (h : y < 1000) (ht : TabIs Tryz.prog w "internal/strconv.uint64pow10" .u64 pow10Tab) : ItoaAt w y := fun W hb => by
  have ht' : TabIs Tryz.prog W "internal/strconv.uint64pow10" .u64 pow10Tab := var_below ht fun g hg => hb.block g (var_lt ht hg)
  refine (Tryz.strconv_Itoa (y : Int) (by omega) (by omega) W ht').mono fun e w' ⟨h1, k, os, h2⟩ => ⟨?_, by rw [h2]; exact grow_below W k _⟩
  rw [h1]
  have : itoa (y : Int) = decDigits y := by unfold itoa; rw [if_neg (by omega)]; simp
  rw [this]; rfl


theorem dec_three (n : Nat) (h : 100 ≤ n) (h1 : n < 1000) : decDigits n = [UInt8.ofNat (48 + n / 100), UInt8.ofNat (48 + n / 10 % 10), UInt8.ofNat (48 + n % 10)] := by
  rw [decDigits, dif_neg (by omega), dec_two _ (by omega) (by omega), show n / 10 / 10 = n / 100 by omega]
  rfl

/-- The digits of a number below 1000. -/
theorem dec_cases (n : Nat) (h : n < 1000) : decDigits n = if n < 10 then [UInt8.ofNat (48 + n)] else if n < 100 then [UInt8.ofNat (48 + n / 10), UInt8.ofNat (48 + n % 10)] else [UInt8.ofNat (48 + n / 100), UInt8.ofNat (48 + n / 10 % 10), UInt8.ofNat (48 + n % 10)] := by
  split
  · exact dec_one n (by omega)
  · split
    · exact dec_two n (by omega) (by omega)
    · exact dec_three n (by omega) h

def digitB (c : UInt8) : Bool := decide (48 ≤ c.toNat ∧ c.toNat ≤ 57)

theorem ofNat_toNat (n : Nat) (h : n < 10) : (UInt8.ofNat (48 + n)).toNat = 48 + n := by
  rw [UInt8.toNat_ofNat']
  omega
theorem digit_ofNat (n : Nat) (h : n < 10) : digitB (UInt8.ofNat (48 + n)) = true := by
  unfold digitB
  rw [ofNat_toNat n h, decide_eq_true_eq]
  omega
theorem dec_digits (n : Nat) (h : n < 1000) : ∀ c ∈ decDigits n, digitB c = true := by
  rw [dec_cases n h]
  intro c hc
  split at hc
  · simp only [List.mem_cons, List.mem_nil_iff, or_false] at hc; subst hc; exact digit_ofNat _ (by omega)
  · split at hc
    · simp only [List.mem_cons, List.mem_nil_iff, or_false] at hc; rcases hc with rfl | rfl <;> exact digit_ofNat _ (by omega)
    · simp only [List.mem_cons, List.mem_nil_iff, or_false] at hc; rcases hc with rfl | rfl | rfl <;> exact digit_ofNat _ (by omega)

theorem atoi_one (p : Nat) (h : p < 10) : atoiAll [UInt8.ofNat (48 + p)] = .ok (p : Int) := by
  have : ∀ p : Fin 10, atoiAll [UInt8.ofNat (48 + p.val)] = .ok (p.val : Int) := by decide
  exact this ⟨p, h⟩
theorem atoi_two (p q : Nat) (h : p < 10) (hq : q < 10) : atoiAll [UInt8.ofNat (48 + p), UInt8.ofNat (48 + q)] = .ok ((10 * p + q : Nat) : Int) := by
  have : ∀ p q : Fin 10, atoiAll [UInt8.ofNat (48 + p.val), UInt8.ofNat (48 + q.val)] = .ok ((10 * p.val + q.val : Nat) : Int) := by decide +kernel
  exact this ⟨p, h⟩ ⟨q, hq⟩
theorem atoi_three (p q r : Nat) (h : p < 10) (hq : q < 10) (hr : r < 10) : atoiAll [UInt8.ofNat (48 + p), UInt8.ofNat (48 + q), UInt8.ofNat (48 + r)] = .ok ((100 * p + 10 * q + r : Nat) : Int) := by
  have : ∀ p q r : Fin 10, atoiAll [UInt8.ofNat (48 + p.val), UInt8.ofNat (48 + q.val), UInt8.ofNat (48 + r.val)] = .ok ((100 * p.val + 10 * q.val + r.val : Nat) : Int) := by decide +kernel
  exact this ⟨p, h⟩ ⟨q, hq⟩ ⟨r, hr⟩

theorem atoi_dec (n : Nat) (h : n < 1000) : atoiAll (decDigits n) = .ok (n : Int) := by
  rw [dec_cases n h]
  split
  · exact atoi_one n (by omega)
  · split
    · rw [atoi_two _ _ (by omega) (by omega)]; congr 2; omega
    · rw [atoi_three _ _ _ (by omega) (by omega) (by omega)]; congr 2; omega

/-- What Go's library reads of its variables stands as the program's text lays it. -/
structure Lay (w : World) : Prop where
  pow : TabIs Tryz.prog w "internal/strconv.uint64pow10" .u64 pow10Tab
  syn : ∃ tp p, w.var? Tryz.prog "strconv.ErrSyntax" = some #[.iface tp p]
  ran : ∃ tp p, w.var? Tryz.prog "strconv.ErrRange" = some #[.iface tp p]
  max : ∃ m, w.cell? ⟨2, 0, none⟩ = some (.int .i64 m)

theorem cell_lt {w : World} {b o : Nat} {v : Value} (h : w.cell? ⟨b, o, none⟩ = some v) : b < w.heap.size := by
  by_cases hlt : b < w.heap.size
  · exact hlt
  · rw [World.cell?, show w.heap[b]? = none from Array.getElem?_eq_none (by omega)] at h
    cases h

/-- The blocks of the four variables. -/
def layBlocks : List Nat := [5, 3, 4, 2]

theorem Lay.keep {w w' : World} (h : Lay w) (hk : ∀ g ∈ layBlocks, w'.heap[g]? = w.heap[g]?) : Lay w' := by
  have g0 : Tryz.prog.globalNamed "internal/strconv.uint64pow10" = some 5 := by kernel_rfl
  have g1 : Tryz.prog.globalNamed "strconv.ErrSyntax" = some 3 := by kernel_rfl
  have g2 : Tryz.prog.globalNamed "strconv.ErrRange" = some 4 := by kernel_rfl
  obtain ⟨h1, ⟨t2, p2, h2⟩, ⟨t3, p3, h3⟩, ⟨m, h4⟩⟩ := h
  refine ⟨var_below h1 fun g hg => ?_, ⟨t2, p2, var_below h2 fun g hg => ?_⟩, ⟨t3, p3, var_below h3 fun g hg => ?_⟩, m, ?_⟩
  · obtain rfl := Option.some.inj (g0.symm.trans hg); exact hk _ (by simp [layBlocks])
  · obtain rfl := Option.some.inj (g1.symm.trans hg); exact hk _ (by simp [layBlocks])
  · obtain rfl := Option.some.inj (g2.symm.trans hg); exact hk _ (by simp [layBlocks])
  · rw [World.cell?_of_block (w := w) (hk _ (by simp [layBlocks]))]; exact h4

theorem Lay.lt {w : World} (h : Lay w) : ∀ g ∈ layBlocks, g < w.heap.size := by
  have g0 : Tryz.prog.globalNamed "internal/strconv.uint64pow10" = some 5 := by kernel_rfl
  have g1 : Tryz.prog.globalNamed "strconv.ErrSyntax" = some 3 := by kernel_rfl
  have g2 : Tryz.prog.globalNamed "strconv.ErrRange" = some 4 := by kernel_rfl
  obtain ⟨h1, ⟨t2, p2, h2⟩, ⟨t3, p3, h3⟩, ⟨m, h4⟩⟩ := h
  intro g hg
  simp only [layBlocks, List.mem_cons, List.mem_nil_iff, or_false] at hg
  rcases hg with rfl | rfl | rfl | rfl
  · exact var_lt h1 g0
  · exact var_lt h2 g1
  · exact var_lt h3 g2
  · exact cell_lt h4

theorem Lay.below {w w' : World} {B : Nat} (h : Lay w) (hb : Below B w w') (hB : w.heap.size ≤ B) : Lay w' := h.keep fun g hg => hb.block g (by have := h.lt g hg; omega)

/-- Atoi where the text is a number. -/
theorem atoi_ok (s : ByteArray) (v : Int) (w : World) (hs : s.size ≤ 1000000) (h : atoiAll s.data.toList = .ok v) :
    Calls Tryz.prog 82 #[.string s] w fun e w' => e = .returned (.tuple #[.int .i64 v, .nilIface]) ∧ Below w.heap.size w w' :=
  (Tryz.strconv_Atoi_ok s (by omega) v h w).mono fun e w' ⟨h1, h2⟩ => ⟨h1, by
    rcases h2 with rfl | ⟨t, rfl⟩
    · exact Below.refl _ _
    · exact bytesWorld_below _ _ _⟩

/-- What Atoi hands back where the text is no number. -/
def AtoiBad (w : World) (e : Ending) (w' : World) : Prop := ∃ (v : Int) (T : TypeId) (N : Nat), e = .returned (.tuple #[.int .i64 v, .iface T (.pointer (some ⟨N, 0, none⟩))]) ∧ Below w.heap.size w w'

theorem atoi_bad (s : ByteArray) (w : World) (hL : Lay w) (hs : s.size ≤ 1000000) (h : ∀ v, atoiAll s.data.toList ≠ .ok v) : Calls Tryz.prog 82 #[.string s] w (AtoiBad w) := by
  by_cases h2 : atoiAll s.data.toList = .range
  · obtain ⟨tp, p, hp⟩ := hL.ran
    exact (Tryz.strconv_Atoi_range_var s (by omega) h2 tp p w hp).mono fun e w' ⟨N, h1, _, _, h4⟩ => ⟨_, _, N, h1, h4⟩
  · obtain ⟨tp, p, hp⟩ := hL.syn
    exact (Tryz.strconv_Atoi_syntax_var s (by omega) h h2 tp p w hp).mono fun e w' ⟨N, h1, _, _, h4⟩ => ⟨_, _, N, h1, h4⟩

theorem bcell {W w1 : World} (hb : Below W.heap.size W w1) : (∀ b o, b < W.heap.size → w1.cell? ⟨b, o, none⟩ = W.cell? ⟨b, o, none⟩) ∧ (∀ b o, b < W.heap.size → w1.frozen? ⟨b, o, none⟩ = W.frozen? ⟨b, o, none⟩) :=
  ⟨fun b o h => hb.cell (p := ⟨b, o, none⟩) h, fun b o h => hb.frozen (p := ⟨b, o, none⟩) h⟩

theorem Lay.itoa {w : World} (h : Lay w) (d : Nat) (hd : d ≤ 36000) : ItoaAt w (d / 360) := itoaAt_tab w _ (by omega) h.pow

end Go.Proofs.YtknmgkjfopoinaaGreatDoor

/- Plain mathematics of cutting a text at a byte: its words, the index of a byte, the rest behind it; of no program; no condition. -/
namespace Go.Proofs.YtknmgkjfopoinaaGreatDoor
open Go.RowKit Go.Lib Go.Proofs

/-- The words of a text, cut at every byte c. -/
def wordsL (c : UInt8) : List UInt8 → List (List UInt8)
  | [] => [[]]
  | x :: l => if x = c then [] :: wordsL c l else match wordsL c l with
    | [] => [[x]]
    | h :: t => (x :: h) :: t

theorem wordsL_ne (c : UInt8) (l : List UInt8) : wordsL c l ≠ [] := by
  cases l with
  | nil => simp [wordsL]
  | cons x l =>
    unfold wordsL
    split
    · simp
    · split <;> simp

theorem indexByte_cases (l : List UInt8) (c : UInt8) : (indexByte l c = -1 ∧ c ∉ l) ∨ ∃ i : Nat, indexByte l c = i ∧ i < l.length ∧ c ∉ l.take i ∧ l.drop i = c :: l.drop (i + 1) := by
  induction l with
  | nil => exact Or.inl ⟨rfl, by simp⟩
  | cons b l ih =>
    unfold indexByte
    by_cases hb : b = c
    · subst hb
      refine Or.inr ⟨0, by simp, by simp, by simp, by simp⟩
    · have hbeq : (b == c) = false := by simpa using hb
      rw [hbeq]
      rcases ih with ⟨h1, h2⟩ | ⟨i, h1, h2, h3, h4⟩
      · refine Or.inl ⟨by rw [h1]; rfl, ?_⟩
        simp only [List.mem_cons, not_or]
        exact ⟨fun e => hb e.symm, h2⟩
      · refine Or.inr ⟨i + 1, ?_, by simp; omega, ?_, by simpa using h4⟩
        · rw [h1]
          have : ((i : Int) == -1) = false := by rw [beq_eq_false_iff_ne]; omega
          rw [this]
          simp
        · simp only [List.take_succ_cons, List.mem_cons, not_or]
          exact ⟨fun e => hb e.symm, h3⟩

theorem wordsL_no {c : UInt8} {l : List UInt8} (h : c ∉ l) : wordsL c l = [l] := by
  induction l with
  | nil => rfl
  | cons x l ih =>
    simp only [List.mem_cons, not_or] at h
    unfold wordsL
    rw [if_neg (fun e => h.1 e.symm), ih h.2]

theorem wordsL_app {c : UInt8} {a r : List UInt8} (h : c ∉ a) : wordsL c (a ++ c :: r) = a :: wordsL c r := by
  induction a with
  | nil => simp [wordsL]
  | cons x a ih =>
    simp only [List.mem_cons, not_or] at h
    rw [List.cons_append, wordsL, if_neg (fun e => h.1 e.symm), ih h.2]

theorem wordsL_hit {c : UInt8} {l : List UInt8} {i : Nat} (h3 : c ∉ l.take i) (h4 : l.drop i = c :: l.drop (i + 1)) : wordsL c l = l.take i :: wordsL c (l.drop (i + 1)) := by
  have : l = l.take i ++ c :: l.drop (i + 1) := by rw [← h4, List.take_append_drop]
  rw [show wordsL c l = wordsL c (l.take i ++ c :: l.drop (i + 1)) by rw [← this], wordsL_app h3]

theorem wordsL_clean (c : UInt8) (l : List UInt8) : ∀ w ∈ wordsL c l, c ∉ w := by
  induction l with
  | nil => intro w hw; simp [wordsL] at hw; subst hw; simp
  | cons x l ih =>
    unfold wordsL
    split
    · intro w hw
      rcases List.mem_cons.1 hw with rfl | hw
      · simp
      · exact ih w hw
    · rename_i hx
      split
      · intro w hw; simp at hw; subst hw; simp; exact fun e => hx e.symm
      · rename_i h t he
        intro w hw
        rcases List.mem_cons.1 hw with rfl | hw
        · have := ih h (by rw [he]; simp)
          simp only [List.mem_cons, not_or]
          exact ⟨fun e => hx e.symm, this⟩
        · exact ih w (by rw [he]; simp [hw])

/-- The text of some words, with c between them. -/
def joinL (c : UInt8) : List (List UInt8) → List UInt8
  | [] => []
  | [a] => a
  | a :: b :: t => a ++ c :: joinL c (b :: t)

theorem joinL_words (c : UInt8) (l : List UInt8) : joinL c (wordsL c l) = l := by
  induction l with
  | nil => rfl
  | cons x l ih =>
    unfold wordsL
    have hne := wordsL_ne c l
    split
    · rename_i hx
      subst hx
      cases hw : wordsL x l with
      | nil => exact absurd hw hne
      | cons a t => rw [hw] at ih; rw [joinL, ih]; rfl
    · cases hw : wordsL c l with
      | nil => exact absurd hw hne
      | cons a t =>
        rw [hw] at ih
        cases t with
        | nil => simp only [joinL] at ih ⊢; rw [ih]
        | cons b t => simp only [joinL] at ih ⊢; rw [← ih]; rfl

theorem words_join (c : UInt8) : ∀ (ws : List (List UInt8)), ws ≠ [] → (∀ w ∈ ws, c ∉ w) → wordsL c (joinL c ws) = ws
  | [], h, _ => absurd rfl h
  | [a], _, h => wordsL_no (h a (by simp))
  | a :: b :: t, _, h => by
    rw [joinL, wordsL_app (h a (by simp)), words_join c (b :: t) (by simp) (fun w hw => h w (List.mem_cons_of_mem _ hw))]

theorem wordsL_len (c : UInt8) (l : List UInt8) : ∀ w ∈ wordsL c l, w.length ≤ l.length := by
  induction l with
  | nil => intro w hw; simp [wordsL] at hw; subst hw; simp
  | cons x l ih =>
    unfold wordsL
    split
    · intro w hw
      rcases List.mem_cons.1 hw with rfl | hw
      · simp
      · have := ih w hw; simp; omega
    · split
      · intro w hw; simp at hw; subst hw; simp
      · rename_i h t he
        intro w hw
        rcases List.mem_cons.1 hw with rfl | hw
        · have := ih h (by rw [he]; simp); simp; omega
        · have := ih w (by rw [he]; simp [hw]); simp; omega

/-- A text of these bytes. -/
def txt (l : List UInt8) : ByteArray := ⟨l.toArray⟩
theorem txt_list (l : List UInt8) : (txt l).data.toList = l := by simp [txt]
theorem txt_back (s : ByteArray) : txt s.data.toList = s := by cases s; simp [txt]
theorem txt_size (l : List UInt8) : (txt l).size = l.length := by simp [txt, ByteArray.size]
theorem txt_inj {a b : List UInt8} (h : txt a = txt b) : a = b := by have := congrArg (fun s => s.data.toList) h; simpa [txt_list] using this
theorem size_list (s : ByteArray) : s.size = s.data.toList.length := by rw [Array.length_toList]; rfl
theorem bytes_ext {a b : ByteArray} (h : a.data.toList = b.data.toList) : a = b := by rw [← txt_back a, ← txt_back b, h]

theorem extract_list (s : ByteArray) (a b : Nat) : (s.extract a b).data.toList = (s.data.toList.drop a).take (b - a) := by
  rw [ByteArray.data_extract, Array.toList_extract, List.extract_eq_take_drop]
theorem extract_front (s : ByteArray) (b : Nat) : s.extract 0 b = txt (s.data.toList.take b) := bytes_ext (by rw [extract_list, txt_list]; simp)
theorem extract_back (s : ByteArray) (a : Nat) : s.extract a s.size = txt (s.data.toList.drop a) := bytes_ext (by
  rw [extract_list, txt_list, size_list, List.take_of_length_le (by simp)])

/-- The words of a text, as texts. -/
def wordsB (c : UInt8) (s : ByteArray) : List ByteArray := (wordsL c s.data.toList).map txt

end Go.Proofs.YtknmgkjfopoinaaGreatDoor

/- The contracts of Go's library that this seat's texts use, laid at its translation by the kit's commands; no condition beyond each contract's own. -/
namespace Go.Proofs
open Go.Shelf
def Tryz.lays143_ren : Go.Shelf.Ren := ⟨fun | 143 => 87 | 219 => 92 | 217 => 99 | 225 => 100 | 224 => 101 | 267 => 102 | 266 => 110 | 314 => 111 | n => n, fun | 9 => 9 | 3 => 3 | 4 => 4 | 5 => 5 | 46 => 127 | 146 => 145 | 51 => 144 | n => n, fun | 1 => 2 | n => n⟩
theorem Tryz.lays143 : Go.Proofs.Lays.n143 Tryz.prog Tryz.lays143_ren := {
  mixed := by kernel_rfl
  f143 := Tryz.func87.trans (congrArg some (by kernel_rfl))
  f217 := Tryz.func99.trans (congrArg some (by kernel_rfl))
  f219 := Tryz.func92.trans (congrArg some (by kernel_rfl))
  f224 := Tryz.func101.trans (congrArg some (by kernel_rfl))
  f225 := Tryz.func100.trans (congrArg some (by kernel_rfl))
  f266 := Tryz.func110.trans (congrArg some (by kernel_rfl))
  f267 := Tryz.func102.trans (congrArg some (by kernel_rfl))
  f314 := Tryz.func111.trans (congrArg some (by kernel_rfl))
  t3 := Tryz.underlying3
  a3 := Tryz.isAgg3
  z3 := Tryz.sizeOf3
  v3 := Tryz.zeroValue3
  t4 := Tryz.underlying4
  a4 := Tryz.isAgg4
  z4 := Tryz.sizeOf4
  v4 := Tryz.zeroValue4
  t5 := Tryz.underlying5
  a5 := Tryz.isAgg5
  z5 := Tryz.sizeOf5
  v5 := Tryz.zeroValue5
  t9 := Tryz.underlying9
  a9 := Tryz.isAgg9
  z9 := Tryz.sizeOf9
  v9 := Tryz.zeroValue9
  t46 := Tryz.underlying127
  a46 := Tryz.isAgg127
  z46 := Tryz.sizeOf127
  v46 := Tryz.zeroValue127
  t51 := Tryz.underlying144
  a51 := Tryz.isAgg144
  z51 := Tryz.sizeOf144
  v51 := Tryz.zeroValue144
  t146 := Tryz.underlying145
  a146 := Tryz.isAgg145
  z146 := Tryz.sizeOf145
  v146 := Tryz.zeroValue145
  g1 := by kernel_rfl }
open Go.RowKit Go.Lib in
/-- strings.Index: "Index returns the index of the first instance of substr in s, or -1 if substr is not present in s.": AT A substr OF ONE BYTE c: IT RETURNS 'Lib.indexByte s c'; the world is as it was. (LAID: no walk: one application.) -/
theorem Tryz.strings_Index_one (s : ByteArray) (c : UInt8) (w : World) :
    Calls Tryz.prog 87 #[.string s, .string ⟨#[c]⟩] w fun e w' => e = .returned (.int .i64 (Lib.indexByte s.data.toList c)) ∧ w' = w := Any.strings_Index_one Tryz.lays143 s c w
end Go.Proofs

/- The contract of strings.SplitSeq at a separator of one byte: its iterator hands on the words of the text in order. -/
namespace Go.Proofs.YtknmgkjfopoinaaGreatDoor
open Go.RowKit Go.Lib Go.Proofs

attribute [local go_sem] Oper.semAt_some

/-- The length of the text in a block's first cell. -/
def lenAt (b : Nat) (W : World) : Nat := match W.cell? ⟨b, 0, none⟩ with
  | some (.string t) => t.size
  | _ => 0
theorem lenAt_eq {b : Nat} {W : World} {t : ByteArray} (h : W.cell? ⟨b, 0, none⟩ = some (.string t)) : lenAt b W = t.size := by unfold lenAt; rw [h]

theorem split_hit {c : UInt8} {t : ByteArray} {i : Nat} (h : indexByte t.data.toList c = i) : i < t.size ∧ wordsB c t = t.extract 0 i :: wordsB c (t.extract (i + 1) t.size) := by
  rcases indexByte_cases t.data.toList c with ⟨h1, _⟩ | ⟨k, h1, h2, h3, h4⟩
  · rw [h] at h1; omega
  · have : k = i := by rw [h] at h1; omega
    subst this
    refine ⟨by rw [size_list]; exact h2, ?_⟩
    unfold wordsB
    rw [wordsL_hit h3 h4, List.map_cons, extract_front, extract_back, txt_list]

theorem split_no {c : UInt8} {t : ByteArray} (h : indexByte t.data.toList c = -1) : wordsB c t = [t] := by
  rcases indexByte_cases t.data.toList c with ⟨_, h2⟩ | ⟨k, h1, _⟩
  · unfold wordsB
    rw [wordsL_no h2]; simp [txt_back]
  · rw [h] at h1; omega

/-- The three blocks that the closure of SplitSeq has captured. -/
structure SplitAt (b : Nat) (c : UInt8) (t : ByteArray) (W : World) : Prop where
  s : Boxed W b 9 (.string t)
  sep : Boxed W (b + 1) 9 (.string ⟨#[c]⟩)
  save : Boxed W (b + 2) 3 (.int .i64 0)

theorem SplitAt.of {b : Nat} {c : UInt8} {t : ByteArray} {A B : World} (h : SplitAt b c t A) (k : KeepsThree b (b + 1) (b + 2) A B) : SplitAt b c t B := ⟨k.1.trans h.s, k.2.1.trans h.sep, k.2.2.trans h.save⟩
theorem SplitAt.below {b : Nat} {c : UInt8} {t : ByteArray} {A B : World} (h : SplitAt b c t A) (k : Below A.heap.size A B) : SplitAt b c t B := h.of ⟨k.block _ h.s.lt, k.block _ h.sep.lt, k.block _ h.save.lt⟩
theorem SplitAt.set {b : Nat} {c : UInt8} {t : ByteArray} {A : World} (h : SplitAt b c t A) (u : ByteArray) : SplitAt b c u (A.setCell ⟨b, 0, none⟩ (.string u)) :=
  ⟨h.s.set _, (Below.heap_setCell A _ _ _ (by simp)).trans h.sep, (Below.heap_setCell A _ _ _ (by simp)).trans h.save⟩

set_option maxRecDepth 100000 in
set_option maxHeartbeats 4000000 in
theorem splitSeqC_in (c : UInt8) (s : ByteArray) (b : Nat) (w : World) (h : SplitAt b c s w) (hs : s.size ≤ 1000000000) :
    SeqCell Tryz.prog 85 #[.pointer (some ⟨b + 1, 0, none⟩), .pointer (some ⟨b, 0, none⟩), .pointer (some ⟨b + 2, 0, none⟩)] (fun x : ByteArray => .string x) b (KeepsThree b (b + 1) (b + 2)) (wordsB c s) w := by
  intro l J Jx W hW hJ hY h0
  have hS : SplitAt b c s W := h.below hW
  have HJ := Lib.hid hJ
  have HY := Lib.hid hY
  have c0 := hS.s.cell
  have c1 := hS.sep.cell
  have c2 := hS.save.cell
  have HS := Lib.hid hS
  clear hJ hY hS h
  have hone : (⟨#[c]⟩ : ByteArray).size = 1 := rfl
  refine callsIn_of_wp Tryz.func85 rfl trivial ?_ rfl
  simp only [Tryz.ntmps85, List.size_toArray, List.length_cons, List.length_nil, Nat.reduceAdd, Nat.reduceSub, Array.replicate_succ, Array.replicate_zero, List.push_toArray, List.append_toArray, List.nil_append, List.cons_append]
  gi_wp2
  gi_loopw [7] (fun _ wr => ∃ (pre : List ByteArray) (t : ByteArray), Hid (wordsB c s = pre ++ wordsB c t) ∧ Hid (SplitAt b c t wr) ∧ Hid (J pre wr) ∧ t.size ≤ 1000000000) (fun _ wr => lenAt b wr)
  case atStart => exact ⟨[], s, Lib.hid rfl, HS, Lib.hid h0, hs⟩
  case round =>
    obtain ⟨pre, t, HW, HT, HJp, htz⟩ := hrel
    have d0 := HT.out.s.cell
    have d1 := HT.out.sep.cell
    have d2 := HT.out.save.cell
    have f0 := HT.out.s.frozen
    obtain ⟨i, hi⟩ : ∃ i, indexByte t.data.toList c = i := ⟨_, rfl⟩
    have hcase : i = -1 ∨ ∃ k : Nat, i = k := by
      rcases indexByte_cases t.data.toList c with ⟨h1, _⟩ | ⟨k, h1, _⟩
      · exact Or.inl (by omega)
      · exact Or.inr ⟨k, by omega⟩
    have hx : ∀ (n : Nat) (W : World), CallsIn Fence.wide n Tryz.prog 87 #[.string t, .string ⟨#[c]⟩] W fun e w' => e = .returned (.int .i64 i) ∧ w' = W := fun n W => callsIn_wide.2 (by have := Tryz.strings_Index_one t c W; rwa [hi] at this)
    rcases hcase with rfl | ⟨k, rfl⟩
    · have hw : wordsB c t = [t] := split_no hi
      obtain ⟨fn, tmps, assign, body, hy, hR⟩ := HY.out pre t wr (by rw [HW.out, hw]; exact List.prefix_refl _) HJp.out
      have HX := Lib.hid hx
      have HWW := Lib.hid hw
      clear hi hw hx
      gi_wp2_with (refine ⟨trivial, rfl, ?_⟩; gi_at_call 87; refine (HX.out _ _).mono ?_; rintro e w' ⟨rfl, rfl⟩)
      refine ⟨rfl, hR.mono ?_⟩
      rintro e A (⟨rfl, hJA, hK⟩ | ⟨rfl, hJA⟩)
      · have HJA := Lib.hid hJA
        clear hJA
        gi_wp2
        go_end0
        exact ⟨⟨_, rfl⟩, .inl (by rw [HW.out, HWW.out]; exact HJA.out)⟩
      · have HJA := Lib.hid hJA
        clear hJA
        gi_wp2
        go_end0
        exact ⟨⟨_, rfl⟩, .inr ⟨pre ++ [t], by rw [HW.out, HWW.out]; exact List.prefix_refl _, HJA.out⟩⟩
    · obtain ⟨hk, hw⟩ := split_hit hi
      obtain ⟨fn, tmps, assign, body, hy, hR⟩ := HY.out pre (t.extract 0 k) wr (by rw [HW.out, hw]; exact ⟨wordsB c (t.extract (k + 1) t.size), by simp⟩) HJp.out
      have HX := Lib.hid hx
      have HWW := Lib.hid hw
      have hk0 : (0 : Int) ≤ (k : Int) := by omega
      have hk1 : (k : Int) ≤ (t.size : Int) := by omega
      have hk2 : (k : Int) + 1 ≤ (t.size : Int) := by omega
      clear hi hw hx
      gi_wp2_with (refine ⟨trivial, rfl, ?_⟩; gi_at_call 87; refine (HX.out _ _).mono ?_; rintro e w' ⟨rfl, rfl⟩)
      refine ⟨rfl, hR.mono ?_⟩
      rintro e A (⟨rfl, hJA, hK⟩ | ⟨rfl, hJA⟩)
      · have hSA := HT.out.of hK
        have g0 := hSA.s.cell
        have g1 := hSA.sep.cell
        have g2 := hSA.save.cell
        have e0 := hSA.s.frozen
        have HJA := Lib.hid hJA
        have HSA := Lib.hid hSA
        clear hJA hSA hK
        have hz : (t.extract (k + 1) t.size).size < t.size := by rw [ByteArray.size_extract]; omega
        gi_wp2
        go_roundw
        case rel => exact ⟨pre ++ [t.extract 0 k], t.extract (k + 1) t.size, Lib.hid (by rw [HW.out, HWW.out]; simp), Lib.hid (HSA.out.set _), Lib.hid (HJ.out _ _ _ HJA.out (grownBy_setCell' A b _)), by omega⟩
        case measure => rw [lenAt_eq (HSA.out.set _).s.cell, lenAt_eq d0]; exact hz
      · have HJA := Lib.hid hJA
        clear hJA
        gi_wp2
        refine bodyPost_ret (results_none rfl _ _ _) rfl ?_
        exact ⟨⟨_, rfl⟩, .inr ⟨pre ++ [t.extract 0 k], by rw [HW.out, HWW.out]; exact ⟨wordsB c (t.extract (k + 1) t.size), by simp⟩, HJA.out⟩⟩

/-- What SplitSeq hands back, and its world: three new blocks. -/
def splitWorld (s : ByteArray) (c : UInt8) (w : World) : World := ((w.alloc (.cells #[.string s] 9)).alloc (.cells #[.string ⟨#[c]⟩] 9)).alloc (.cells #[.int .i64 0] 3)

theorem splitWorld_at (s : ByteArray) (c : UInt8) (w : World) : SplitAt w.heap.size c s (splitWorld s c w) := by
  have e1 : (w.alloc (.cells #[.string s] 9)).heap.size = w.heap.size + 1 := by simp
  have e2 : ((w.alloc (.cells #[.string s] 9)).alloc (.cells #[.string ⟨#[c]⟩] 9)).heap.size = w.heap.size + 2 := by simp
  refine ⟨((Boxed.new w _ _).alloc _).alloc _, ?_, ?_⟩
  · have := (Boxed.new (w.alloc (.cells #[.string s] 9)) 9 (.string ⟨#[c]⟩)).alloc (.cells #[.int .i64 0] 3)
    rw [e1] at this; exact this
  · have := Boxed.new ((w.alloc (.cells #[.string s] 9)).alloc (.cells #[.string ⟨#[c]⟩] 9)) 3 (.int .i64 0)
    rw [e2] at this; exact this
theorem splitWorld_below (s : ByteArray) (c : UInt8) (w : World) : Below w.heap.size w (splitWorld s c w) := (((Below.refl _ _).alloc (Nat.le_refl _) _).alloc (by simp) _).alloc (by simp; omega) _
theorem splitWorld_size (s : ByteArray) (c : UInt8) (w : World) : (splitWorld s c w).heap.size = w.heap.size + 3 := by simp [splitWorld]
theorem splitWorld_others (s : ByteArray) (c : UInt8) (w : World) : KeepsOthers w (splitWorld s c w) := ((KeepsOthers.alloc _ _).trans (KeepsOthers.alloc _ _)).trans (KeepsOthers.alloc _ _)

def splitFn (b : Nat) : Value := .func (.func 85) #[] #[.pointer (some ⟨b + 1, 0, none⟩), .pointer (some ⟨b, 0, none⟩), .pointer (some ⟨b + 2, 0, none⟩)]

set_option maxHeartbeats 1000000 in
theorem splitSeq_any (s : ByteArray) (c : UInt8) (w : World) :
    Calls Tryz.prog 81 #[.string s, .string ⟨#[c]⟩, .int .i64 0] w fun e w' => e = .returned (splitFn w.heap.size) ∧ w' = splitWorld s c w := by
  go_enter Tryz.func81, Tryz.ntmps81
  go_wp2
  go_ret
  exact ⟨rfl, rfl⟩
set_option maxHeartbeats 1000000 in
theorem SplitSeq_any (s : ByteArray) (c : UInt8) (w : World) :
    Calls Tryz.prog 79 #[.string s, .string ⟨#[c]⟩] w fun e w' => e = .returned (splitFn w.heap.size) ∧ w' = splitWorld s c w := by
  go_enter Tryz.func79, Tryz.ntmps79
  go_wp2_with fail
  refine (splitSeq_any s c w).mono ?_
  rintro e w' ⟨rfl, rfl⟩
  go_wp2
  go_ret
  exact ⟨rfl, rfl⟩

end Go.Proofs.YtknmgkjfopoinaaGreatDoor

/- Contracts of classification.within and classification.number: the number from 1 to 99 that a word writes, without zeros in front; for words of up to 10^9 bytes. -/
namespace Go.Proofs.YtknmgkjfopoinaaGreatDoor
open Go.RowKit Go.Lib Go.Proofs

set_option maxHeartbeats 400000 in
theorem clwithin_any (n lo hi : Int) (w : World) :
    Calls Tryz.prog 83 #[.int .i64 n, .int .i64 lo, .int .i64 hi] w fun e w' => e = .returned (.bool (inB n lo hi)) ∧ w = w' := by
  by_cases h1 : lo ≤ n
  · by_cases h2 : n ≤ hi
    · have h : inB n lo hi = true := inB_true.2 ⟨h1, h2⟩
      rw [h]; clear h
      go_enter Tryz.func83, Tryz.ntmps83
      go_wp2
      go_ret
      exact ⟨rfl, rfl⟩
    · have h : inB n lo hi = false := inB_false.2 (fun q => h2 q.2)
      rw [h]; clear h
      go_enter Tryz.func83, Tryz.ntmps83
      go_wp2
      go_ret
      exact ⟨rfl, rfl⟩
  · have h : inB n lo hi = false := inB_false.2 (fun q => h1 q.1)
    rw [h]; clear h
    go_enter Tryz.func83, Tryz.ntmps83
    go_wp2
    go_ret
    exact ⟨rfl, rfl⟩

theorem clwithin_yes {n lo hi : Int} (w : World) (h : inB n lo hi = true) :
    Calls Tryz.prog 83 #[.int .i64 n, .int .i64 lo, .int .i64 hi] w fun e w' => e = .returned (.bool true) ∧ w = w' := by
  have := clwithin_any n lo hi w; rw [h] at this; exact this
theorem clwithin_no {n lo hi : Int} (w : World) (h : inB n lo hi = false) :
    Calls Tryz.prog 83 #[.int .i64 n, .int .i64 lo, .int .i64 hi] w fun e w' => e = .returned (.bool false) ∧ w = w' := by
  have := clwithin_any n lo hi w; rw [h] at this; exact this

/-- The number from 1 to 99 that a word writes. -/
def numW (l : List UInt8) : Option Nat := (List.range 100).find? fun v => decide (1 ≤ v) && decide (decDigits v = l)

theorem dec_inj {a b : Nat} (ha : a < 1000) (hb : b < 1000) (h : decDigits a = decDigits b) : a = b := by
  have h1 := atoi_dec a ha
  rw [h, atoi_dec b hb] at h1
  injection h1 with h1
  omega

theorem numW_some {l : List UInt8} {v : Nat} : numW l = some v ↔ (1 ≤ v ∧ v ≤ 99) ∧ decDigits v = l := by
  constructor
  · intro h
    have h1 := List.find?_some h
    have h2 := List.mem_of_find?_eq_some h
    simp only [Bool.and_eq_true, decide_eq_true_eq] at h1
    have := List.mem_range.1 h2
    exact ⟨⟨h1.1, by omega⟩, h1.2⟩
  · rintro ⟨⟨h1, h2⟩, h3⟩
    cases hf : numW l with
    | none =>
      have := List.find?_eq_none.1 hf v (List.mem_range.2 (by omega))
      simp [h1, h3] at this
    | some u =>
      have g1 := List.find?_some hf
      have g2 := List.mem_range.1 (List.mem_of_find?_eq_some hf)
      simp only [Bool.and_eq_true, decide_eq_true_eq] at g1
      rw [dec_inj (by omega) (by omega) (g1.2.trans h3.symm)]

theorem decB_list (v : Nat) : (decB v).data.toList = decDigits v := by simp [decB]

/-- What number returns. -/
def NumPost (w : World) (r : Option Nat) (e : Ending) (w' : World) : Prop :=
  (match r with
    | some v => e = .returned (.tuple #[.int .i64 (v : Int), .bool true])
    | none => e = .returned (.tuple #[.int .i64 0, .bool false])) ∧ Below w.heap.size w w'

set_option maxHeartbeats 2000000 in
theorem clnumber_any (s : ByteArray) (w : World) (hL : Lay w) (hs : s.size ≤ 1000000) :
    Calls Tryz.prog 80 #[.string s] w (NumPost w (numW s.data.toList)) := by
  have dec : (∃ v, atoiAll s.data.toList = .ok v) ∨ ∀ v, atoiAll s.data.toList ≠ .ok v := by
    by_cases h : ∃ v, atoiAll s.data.toList = .ok v
    · exact Or.inl h
    · exact Or.inr fun v hv => h ⟨v, hv⟩
  rcases dec with ⟨v, hv⟩ | hv
  · have HA := Lib.hid (atoi_ok s v w hs hv)
    by_cases hr : 1 ≤ v ∧ v ≤ 99
    · obtain ⟨k, rfl⟩ : ∃ k : Nat, v = k := ⟨v.toNat, by omega⟩
      have HI := Lib.hid (fun W => itoa_small k W (by omega))
      have HW := Lib.hid (fun W => clwithin_yes (lo := 1) (hi := 99) W (inB_true.2 hr))
      by_cases he : decB k = s
      · have hn : numW s.data.toList = some k := numW_some.2 ⟨by omega, by rw [← he, decB_list]⟩
        have h1 := strEq_true he
        have h2 : (!((decB k).toList == s.toList)) = false := by rw [h1]; rfl
        rw [hn]
        clear hv hr he hn hL
        go_enter Tryz.func80, Tryz.ntmps80
        go_wp2_with fail
        refine (HA.out).mono ?_
        rintro e w1 ⟨rfl, hb⟩
        have HB := Lib.hid hb
        clear hb
        go_wp2_with fail
        refine (HW.out _).mono ?_
        rintro e w2 ⟨rfl, rfl⟩
        go_wp2_with fail
        refine (HI.out _).mono ?_
        rintro e w2 ⟨rfl, rfl⟩
        go_wp2_with fail
        go_ret2
        exact ⟨rfl, HB.out⟩
      · have hn : numW s.data.toList = none := by
          cases hf : numW s.data.toList with
          | none => rfl
          | some u =>
            obtain ⟨h1, h2⟩ := numW_some.1 hf
            rw [← h2, atoi_dec u (by omega)] at hv
            injection hv with hv
            have : u = k := by omega
            subst this
            exact absurd (bytes_ext (by rw [decB_list, h2])) he
        have h1 := strEq_false he
        have h2 : (!((decB k).toList == s.toList)) = true := by rw [h1]; rfl
        rw [hn]
        clear hv hr he hn hL
        go_enter Tryz.func80, Tryz.ntmps80
        go_wp2_with fail
        refine (HA.out).mono ?_
        rintro e w1 ⟨rfl, hb⟩
        have HB := Lib.hid hb
        clear hb
        go_wp2_with fail
        refine (HW.out _).mono ?_
        rintro e w2 ⟨rfl, rfl⟩
        go_wp2_with fail
        refine (HI.out _).mono ?_
        rintro e w2 ⟨rfl, rfl⟩
        go_wp2_with fail
        go_ret2
        exact ⟨rfl, HB.out⟩
    · have HW := Lib.hid (fun W => clwithin_no (lo := 1) (hi := 99) W (inB_false.2 hr))
      have hn : numW s.data.toList = none := by
        cases hf : numW s.data.toList with
        | none => rfl
        | some u =>
          obtain ⟨h1, h2⟩ := numW_some.1 hf
          rw [← h2, atoi_dec u (by omega)] at hv
          injection hv with hv
          exact absurd ⟨by omega, by omega⟩ hr
      rw [hn]
      clear hv hr hn hL
      go_enter Tryz.func80, Tryz.ntmps80
      go_wp2_with fail
      refine (HA.out).mono ?_
      rintro e w1 ⟨rfl, hb⟩
      have HB := Lib.hid hb
      clear hb
      go_wp2_with fail
      refine (HW.out _).mono ?_
      rintro e w2 ⟨rfl, rfl⟩
      go_wp2_with fail
      go_ret2
      exact ⟨rfl, HB.out⟩
  · have hn : numW s.data.toList = none := by
      cases hf : numW s.data.toList with
      | none => rfl
      | some u =>
        obtain ⟨h1, h2⟩ := numW_some.1 hf
        exact absurd (by rw [← h2]; exact atoi_dec u (by omega)) (hv u)
    have HA := Lib.hid (atoi_bad s w hL hs hv)
    rw [hn]
    clear hv hn hL
    go_enter Tryz.func80, Tryz.ntmps80
    go_wp2_with fail
    refine (HA.out).mono ?_
    rintro e w1 ⟨v, T, N, rfl, hb⟩
    have HB := Lib.hid hb
    clear hb
    go_wp2_with fail
    go_ret2
    exact ⟨rfl, HB.out⟩

end Go.Proofs.YtknmgkjfopoinaaGreatDoor
