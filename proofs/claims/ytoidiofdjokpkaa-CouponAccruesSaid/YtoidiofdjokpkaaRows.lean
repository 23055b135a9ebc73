/-
  No cell of these rows narrows 'for every input' (looked for: loops, veiled, ifaces, maps, wideKeys, modest, calm, conditions, laid).
  DERIVED. THE GIVEN ROWS OF THIS SEAT. 4 by the template 'for every input the law returns true; each argument reads behind the call as it read before'; 0 by the template 'total and deterministic' (their statements: YtoidiofdjokpkaaTotals.lean).
  GIVEN WITH THE SEED: the statements are not yours to turn. If you find one false, say at which input.
  Laid BY PROGRAM, IN A SANDBOX (cutbox-rows.mjs): the forced cells as the released guide's own fill.sh prints them over the translation 3026fe69ba809da4… (all of the seat's roots in one cut). By AI agents, Wed Nov 11 2026. No macro, syntax, notation, axiom, sorry.
-/
import Derived.Test.YtoidiofdjokpkaaChecked
import GoSem.Claim
import GoSem.ClaimJoined
import GoSem.ClaimMapViews
import Derived.JoinedTies
import Derived.KernelRfl
namespace Go.Proofs.Ytoidiofdjokpkaa
/- THE CELL 'sum', in the pinned program and in every row, IS THE sha256 OF THE DUMP (.gsa) THAT YtoidiofdjokpkaaProg.lean LOADS. Nothing in Lean hashes anything: it is a label: what it is worth is what the hold of that sum in a sandbox is worth. -/
noncomputable def Try.pinned : Pinned := { name := "ytoidiofdjokpkaa", sum := "3026fe69ba809da47fecf71b40b97dea4efac933f88c6861543aba61ffcd5092", checked := Try.checked }
namespace Rows
def none {H : Type} : Left H := { results := [], args := [] }

/-- 'treasurylaw34.CouponParts': WHATEVER THE INPUT: true; the input reads as it did. -/
def couponPartsSpec : ChangeSpec := { name := "couponParts", fn := fun _ => fun
  | [d1, d2, d3] => { results := [.lit (.bool true)], args := [d1, d2, d3] }
  | _ => none }
def couponPartsRow : OpenClaim := { program := "ytoidiofdjokpkaa", sum := "3026fe69ba809da47fecf71b40b97dea4efac933f88c6861543aba61ffcd5092", func := "treasury/treasurylaw34.CouponParts", spec := "couponParts", apart := false }
def CouponPartsSaid : Prop := couponPartsRow.holds Try.pinned (OpenSpec.ofChange couponPartsSpec)

/-- ITS FALSE NEIGHBOUR: 'it returns false'. Refute it at one input. -/
def couponPartsWrong : ChangeSpec := { name := "couponParts", fn := fun _ => fun
  | [d1, d2, d3] => { results := [.lit (.bool false)], args := [d1, d2, d3] }
  | _ => none }
def CouponPartsWrongFalsely : Prop := couponPartsRow.holds Try.pinned (OpenSpec.ofChange couponPartsWrong)

/-- 'treasurylaw34.CouponAccrues': WHATEVER THE INPUT: true; the input reads as it did. -/
def couponAccruesSpec : ChangeSpec := { name := "couponAccrues", fn := fun _ => fun
  | [d1, d2] => { results := [.lit (.bool true)], args := [d1, d2] }
  | _ => none }
def couponAccruesRow : OpenClaim := { program := "ytoidiofdjokpkaa", sum := "3026fe69ba809da47fecf71b40b97dea4efac933f88c6861543aba61ffcd5092", func := "treasury/treasurylaw34.CouponAccrues", spec := "couponAccrues", apart := false }
def CouponAccruesSaid : Prop := couponAccruesRow.holds Try.pinned (OpenSpec.ofChange couponAccruesSpec)

/-- ITS FALSE NEIGHBOUR: 'it returns false'. Refute it at one input. -/
def couponAccruesWrong : ChangeSpec := { name := "couponAccrues", fn := fun _ => fun
  | [d1, d2] => { results := [.lit (.bool false)], args := [d1, d2] }
  | _ => none }
def CouponAccruesWrongFalsely : Prop := couponAccruesRow.holds Try.pinned (OpenSpec.ofChange couponAccruesWrong)

/-- 'treasurylaw34.CouponDays': WHATEVER THE INPUT: true; the input reads as it did. -/
def couponDaysSpec : ChangeSpec := { name := "couponDays", fn := fun _ => fun
  | [d] => { results := [.lit (.bool true)], args := [d] }
  | _ => none }
def couponDaysRow : OpenClaim := { program := "ytoidiofdjokpkaa", sum := "3026fe69ba809da47fecf71b40b97dea4efac933f88c6861543aba61ffcd5092", func := "treasury/treasurylaw34.CouponDays", spec := "couponDays", apart := false }
def CouponDaysSaid : Prop := couponDaysRow.holds Try.pinned (OpenSpec.ofChange couponDaysSpec)

/-- ITS FALSE NEIGHBOUR: 'it returns false'. Refute it at one input. -/
def couponDaysWrong : ChangeSpec := { name := "couponDays", fn := fun _ => fun
  | [d] => { results := [.lit (.bool false)], args := [d] }
  | _ => none }
def CouponDaysWrongFalsely : Prop := couponDaysRow.holds Try.pinned (OpenSpec.ofChange couponDaysWrong)

/-- 'treasurylaw34.CouponLife': WHATEVER THE INPUT: true; the input reads as it did. -/
def couponLifeSpec : ChangeSpec := { name := "couponLife", fn := fun _ => fun
  | [d1, d2] => { results := [.lit (.bool true)], args := [d1, d2] }
  | _ => none }
def couponLifeRow : OpenClaim := { program := "ytoidiofdjokpkaa", sum := "3026fe69ba809da47fecf71b40b97dea4efac933f88c6861543aba61ffcd5092", func := "treasury/treasurylaw34.CouponLife", spec := "couponLife", apart := false }
def CouponLifeSaid : Prop := couponLifeRow.holds Try.pinned (OpenSpec.ofChange couponLifeSpec)

/-- ITS FALSE NEIGHBOUR: 'it returns false'. Refute it at one input. -/
def couponLifeWrong : ChangeSpec := { name := "couponLife", fn := fun _ => fun
  | [d1, d2] => { results := [.lit (.bool false)], args := [d1, d2] }
  | _ => none }
def CouponLifeWrongFalsely : Prop := couponLifeRow.holds Try.pinned (OpenSpec.ofChange couponLifeWrong)

/- THE SECOND FORM. 'bulk': how many values and letters a reading holds, each counted each time it is reached (what is shared counts as often as it is met; a slice's spare places count too). A statement '..UptoSaid' is the law's where the arguments, and the package variables that the reading takes, are together of bulk at most 1048576: NARROWER than '..Said'. Prove '..Said' where nothing that the law and all that it calls make is longer than what came in: it says more and counts as full. Else prove '..UptoSaid'. A law counts once. -/
mutual
def uptoBulk {H : Type} : DataW H → Nat
  | .lit (.string bytes) => bytes.length + 1
  | .lit _ => 1
  | .nil => 1
  | .ptr d => uptoBulk d + 1
  | .slice elems spare => uptoBulkAll elems + uptoBulkAll spare + 1
  | .agg parts => uptoBulkAll parts + 1
  | .iface _ d => uptoBulk d + 1
  | .map entries => uptoBulkEntries entries + 1
  | .held _ => 1
def uptoBulkAll {H : Type} : List (DataW H) → Nat
  | [] => 0
  | d :: r => uptoBulk d + uptoBulkAll r
def uptoBulkEntries {H : Type} : List (Lit × DataW H) → Nat
  | [] => 0
  | x :: r => uptoBulkEntry x + uptoBulkEntries r
def uptoBulkEntry {H : Type} : Lit × DataW H → Nat
  | (.string bytes, d) => bytes.length + uptoBulk d + 1
  | (_, d) => uptoBulk d + 1
 end
def uptoSmall : (H : Type) → List (DataW H) → Bool := fun _ ds => decide (uptoBulkAll ds ≤ 1048576)
def OpenSpec.upto (s : _root_.Go.ChangeSpec) : _root_.Go.OpenSpec := { _root_.Go.OpenSpec.ofChange s with cond := some uptoSmall }

/-- 'treasurylaw34.CouponParts', WHERE WHAT IT READS IS OF BULK AT MOST 1048576: true; the input reads as it did. -/
def couponPartsUptoRow : OpenClaim := { program := "ytoidiofdjokpkaa", sum := "3026fe69ba809da47fecf71b40b97dea4efac933f88c6861543aba61ffcd5092", func := "treasury/treasurylaw34.CouponParts", spec := "couponParts", apart := false, narrowed := true }
def CouponPartsUptoSaid : Prop := couponPartsUptoRow.holds Try.pinned (OpenSpec.upto couponPartsSpec)

/-- 'treasurylaw34.CouponAccrues', WHERE WHAT IT READS IS OF BULK AT MOST 1048576: true; the input reads as it did. -/
def couponAccruesUptoRow : OpenClaim := { program := "ytoidiofdjokpkaa", sum := "3026fe69ba809da47fecf71b40b97dea4efac933f88c6861543aba61ffcd5092", func := "treasury/treasurylaw34.CouponAccrues", spec := "couponAccrues", apart := false, narrowed := true }
def CouponAccruesUptoSaid : Prop := couponAccruesUptoRow.holds Try.pinned (OpenSpec.upto couponAccruesSpec)

/-- 'treasurylaw34.CouponDays', WHERE WHAT IT READS IS OF BULK AT MOST 1048576: true; the input reads as it did. -/
def couponDaysUptoRow : OpenClaim := { program := "ytoidiofdjokpkaa", sum := "3026fe69ba809da47fecf71b40b97dea4efac933f88c6861543aba61ffcd5092", func := "treasury/treasurylaw34.CouponDays", spec := "couponDays", apart := false, narrowed := true }
def CouponDaysUptoSaid : Prop := couponDaysUptoRow.holds Try.pinned (OpenSpec.upto couponDaysSpec)

/-- 'treasurylaw34.CouponLife', WHERE WHAT IT READS IS OF BULK AT MOST 1048576: true; the input reads as it did. -/
def couponLifeUptoRow : OpenClaim := { program := "ytoidiofdjokpkaa", sum := "3026fe69ba809da47fecf71b40b97dea4efac933f88c6861543aba61ffcd5092", func := "treasury/treasurylaw34.CouponLife", spec := "couponLife", apart := false, narrowed := true }
def CouponLifeUptoSaid : Prop := couponLifeUptoRow.holds Try.pinned (OpenSpec.upto couponLifeSpec)

end Rows
end Go.Proofs.Ytoidiofdjokpkaa
