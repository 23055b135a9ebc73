/-
  No cell of these rows narrows 'for every input' (looked for: loops, veiled, ifaces, maps, wideKeys, modest, calm, conditions, laid).
  DERIVED. THE GIVEN ROWS OF THIS SEAT. 4 by the template 'for every input the law returns true; each argument reads behind the call as it read before'; 0 by the template 'total and deterministic' (their statements: YthajkhonapjihacTotals.lean).
  GIVEN WITH THE SEED: the statements are not yours to turn. If you find one false, say at which input.
  Laid BY PROGRAM, IN A SANDBOX (cutbox-rows.mjs): the forced cells as the released guide's own fill.sh prints them over the translation 613575a1b946a0f1… (all of the seat's roots in one cut). By AI agents, Wed Nov 11 2026. No macro, syntax, notation, axiom, sorry.
-/
import Derived.Test.YthajkhonapjihacChecked
import GoSem.Claim
import GoSem.ClaimJoined
import GoSem.ClaimMapViews
import Derived.JoinedTies
import Derived.KernelRfl
namespace Go.Proofs.Ythajkhonapjihac
/- THE CELL 'sum', in the pinned program and in every row, IS THE sha256 OF THE DUMP (.gsa) THAT YthajkhonapjihacProg.lean LOADS. Nothing in Lean hashes anything: it is a label: what it is worth is what the hold of that sum in a sandbox is worth. -/
noncomputable def Try.pinned : Pinned := { name := "ythajkhonapjihac", sum := "613575a1b946a0f1ff279ac8f681572327c3dee2c5993fe0893f13a7c0ac68c7", checked := Try.checked }
namespace Rows
def none {H : Type} : Left H := { results := [], args := [] }

/-- 'treasurylaw23.AccountSums': WHATEVER THE INPUT: true; the input reads as it did. -/
def accountSumsSpec : ChangeSpec := { name := "accountSums", fn := fun _ => fun
  | [d] => { results := [.lit (.bool true)], args := [d] }
  | _ => none }
def accountSumsRow : OpenClaim := { program := "ythajkhonapjihac", sum := "613575a1b946a0f1ff279ac8f681572327c3dee2c5993fe0893f13a7c0ac68c7", func := "treasury/treasurylaw23.AccountSums", spec := "accountSums", unfollowed := true, recurses := true, apart := false }
def AccountSumsSaid : Prop := accountSumsRow.holds Try.pinned (OpenSpec.ofChange accountSumsSpec)

/-- ITS FALSE NEIGHBOUR: 'it returns false'. Refute it at one input. -/
def accountSumsWrong : ChangeSpec := { name := "accountSums", fn := fun _ => fun
  | [d] => { results := [.lit (.bool false)], args := [d] }
  | _ => none }
def AccountSumsWrongFalsely : Prop := accountSumsRow.holds Try.pinned (OpenSpec.ofChange accountSumsWrong)

/-- 'treasurylaw23.AccountDays': WHATEVER THE INPUT: true; the input reads as it did. -/
def accountDaysSpec : ChangeSpec := { name := "accountDays", fn := fun _ => fun
  | [d1, d2] => { results := [.lit (.bool true)], args := [d1, d2] }
  | _ => none }
def accountDaysRow : OpenClaim := { program := "ythajkhonapjihac", sum := "613575a1b946a0f1ff279ac8f681572327c3dee2c5993fe0893f13a7c0ac68c7", func := "treasury/treasurylaw23.AccountDays", spec := "accountDays", unfollowed := true, recurses := true, apart := false }
def AccountDaysSaid : Prop := accountDaysRow.holds Try.pinned (OpenSpec.ofChange accountDaysSpec)

/-- ITS FALSE NEIGHBOUR: 'it returns false'. Refute it at one input. -/
def accountDaysWrong : ChangeSpec := { name := "accountDays", fn := fun _ => fun
  | [d1, d2] => { results := [.lit (.bool false)], args := [d1, d2] }
  | _ => none }
def AccountDaysWrongFalsely : Prop := accountDaysRow.holds Try.pinned (OpenSpec.ofChange accountDaysWrong)

/-- 'treasurylaw23.AccountBent': WHATEVER THE INPUT: true; the input reads as it did. -/
def accountBentSpec : ChangeSpec := { name := "accountBent", fn := fun _ => fun
  | [d] => { results := [.lit (.bool true)], args := [d] }
  | _ => none }
def accountBentRow : OpenClaim := { program := "ythajkhonapjihac", sum := "613575a1b946a0f1ff279ac8f681572327c3dee2c5993fe0893f13a7c0ac68c7", func := "treasury/treasurylaw23.AccountBent", spec := "accountBent", unfollowed := true, recurses := true, apart := false }
def AccountBentSaid : Prop := accountBentRow.holds Try.pinned (OpenSpec.ofChange accountBentSpec)

/-- ITS FALSE NEIGHBOUR: 'it returns false'. Refute it at one input. -/
def accountBentWrong : ChangeSpec := { name := "accountBent", fn := fun _ => fun
  | [d] => { results := [.lit (.bool false)], args := [d] }
  | _ => none }
def AccountBentWrongFalsely : Prop := accountBentRow.holds Try.pinned (OpenSpec.ofChange accountBentWrong)

/-- 'treasurylaw23.AccountNumbers': WHATEVER THE INPUT: true; the input reads as it did. -/
def accountNumbersSpec : ChangeSpec := { name := "accountNumbers", fn := fun _ => fun
  | [d] => { results := [.lit (.bool true)], args := [d] }
  | _ => none }
def accountNumbersRow : OpenClaim := { program := "ythajkhonapjihac", sum := "613575a1b946a0f1ff279ac8f681572327c3dee2c5993fe0893f13a7c0ac68c7", func := "treasury/treasurylaw23.AccountNumbers", spec := "accountNumbers", unfollowed := true, recurses := true, apart := false }
def AccountNumbersSaid : Prop := accountNumbersRow.holds Try.pinned (OpenSpec.ofChange accountNumbersSpec)

/-- ITS FALSE NEIGHBOUR: 'it returns false'. Refute it at one input. -/
def accountNumbersWrong : ChangeSpec := { name := "accountNumbers", fn := fun _ => fun
  | [d] => { results := [.lit (.bool false)], args := [d] }
  | _ => none }
def AccountNumbersWrongFalsely : Prop := accountNumbersRow.holds Try.pinned (OpenSpec.ofChange accountNumbersWrong)

/- THE SECOND FORM. 'bulk': how many values and letters a reading holds, each counted each time it is reached (what is shared counts as often as it is met; a slice's spare places count too). A statement '..UptoSaid' is the law's where the arguments, and the package variables that the reading takes, are together of bulk at most 1048576: NARROWER than '..Said'. Prove '..Said' where nothing that the law and all that it calls make is longer than what came in: it says more and counts as full. Else prove '..UptoSaid'. A law counts once. -/
mutual
def uptoBulk {H : Type} : DataW H → Nat
  | .lit (.string bytes) => bytes.length + 1
  | .lit _ => 1
  | .nil => 1
  | .ptr d => uptoBulk d + 1
  | .slice elems spare => uptoBulkAll elems + uptoBulkAll spare + 1
  | .agg parts => uptoBulkAll parts + 1
  | .iface _ d => uptoBulk d + 1
  | .map entries => uptoBulkEntries entries + 1
  | .held _ => 1
def uptoBulkAll {H : Type} : List (DataW H) → Nat
  | [] => 0
  | d :: r => uptoBulk d + uptoBulkAll r
def uptoBulkEntries {H : Type} : List (Lit × DataW H) → Nat
  | [] => 0
  | x :: r => uptoBulkEntry x + uptoBulkEntries r
def uptoBulkEntry {H : Type} : Lit × DataW H → Nat
  | (.string bytes, d) => bytes.length + uptoBulk d + 1
  | (_, d) => uptoBulk d + 1
 end
def uptoSmall : (H : Type) → List (DataW H) → Bool := fun _ ds => decide (uptoBulkAll ds ≤ 1048576)
def OpenSpec.upto (s : _root_.Go.ChangeSpec) : _root_.Go.OpenSpec := { _root_.Go.OpenSpec.ofChange s with cond := some uptoSmall }

/-- 'treasurylaw23.AccountSums', WHERE WHAT IT READS IS OF BULK AT MOST 1048576: true; the input reads as it did. -/
def accountSumsUptoRow : OpenClaim := { program := "ythajkhonapjihac", sum := "613575a1b946a0f1ff279ac8f681572327c3dee2c5993fe0893f13a7c0ac68c7", func := "treasury/treasurylaw23.AccountSums", spec := "accountSums", unfollowed := true, recurses := true, apart := false, narrowed := true }
def AccountSumsUptoSaid : Prop := accountSumsUptoRow.holds Try.pinned (OpenSpec.upto accountSumsSpec)

/-- 'treasurylaw23.AccountDays', WHERE WHAT IT READS IS OF BULK AT MOST 1048576: true; the input reads as it did. -/
def accountDaysUptoRow : OpenClaim := { program := "ythajkhonapjihac", sum := "613575a1b946a0f1ff279ac8f681572327c3dee2c5993fe0893f13a7c0ac68c7", func := "treasury/treasurylaw23.AccountDays", spec := "accountDays", unfollowed := true, recurses := true, apart := false, narrowed := true }
def AccountDaysUptoSaid : Prop := accountDaysUptoRow.holds Try.pinned (OpenSpec.upto accountDaysSpec)

/-- 'treasurylaw23.AccountBent', WHERE WHAT IT READS IS OF BULK AT MOST 1048576: true; the input reads as it did. -/
def accountBentUptoRow : OpenClaim := { program := "ythajkhonapjihac", sum := "613575a1b946a0f1ff279ac8f681572327c3dee2c5993fe0893f13a7c0ac68c7", func := "treasury/treasurylaw23.AccountBent", spec := "accountBent", unfollowed := true, recurses := true, apart := false, narrowed := true }
def AccountBentUptoSaid : Prop := accountBentUptoRow.holds Try.pinned (OpenSpec.upto accountBentSpec)

/-- 'treasurylaw23.AccountNumbers', WHERE WHAT IT READS IS OF BULK AT MOST 1048576: true; the input reads as it did. -/
def accountNumbersUptoRow : OpenClaim := { program := "ythajkhonapjihac", sum := "613575a1b946a0f1ff279ac8f681572327c3dee2c5993fe0893f13a7c0ac68c7", func := "treasury/treasurylaw23.AccountNumbers", spec := "accountNumbers", unfollowed := true, recurses := true, apart := false, narrowed := true }
def AccountNumbersUptoSaid : Prop := accountNumbersUptoRow.holds Try.pinned (OpenSpec.upto accountNumbersSpec)

end Rows
end Go.Proofs.Ythajkhonapjihac
