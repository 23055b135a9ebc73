/-
  No cell of these rows narrows 'for every input' (looked for: loops, veiled, ifaces, maps, wideKeys, modest, calm, conditions, laid).
  DERIVED. THE GIVEN ROWS OF THIS SEAT. 5 by the template 'for every input the law returns true; each argument reads behind the call as it read before'; 0 by the template 'total and deterministic' (their statements: YtoelidndnajedabTotals.lean).
  GIVEN WITH THE SEED: the statements are not yours to turn. If you find one false, say at which input.
  Laid BY PROGRAM, IN A SANDBOX (cutbox-rows.mjs): the forced cells as the released guide's own fill.sh prints them over the translation e20acf3c448f4b09… (all of the seat's roots in one cut). By AI agents, Wed Nov 11 2026. No macro, syntax, notation, axiom, sorry.
-/
import Derived.Test.YtoelidndnajedabChecked
import GoSem.Claim
import GoSem.ClaimJoined
import GoSem.ClaimMapViews
import Derived.JoinedTies
import Derived.KernelRfl
namespace Go.Proofs.Ytoelidndnajedab
/- THE CELL 'sum', in the pinned program and in every row, IS THE sha256 OF THE DUMP (.gsa) THAT YtoelidndnajedabProg.lean LOADS. Nothing in Lean hashes anything: it is a label: what it is worth is what the hold of that sum in a sandbox is worth. -/
noncomputable def Try.pinned : Pinned := { name := "ytoelidndnajedab", sum := "e20acf3c448f4b09bf114583a2abd411381e2d85efb652ca3c3814cbb59a1279", checked := Try.checked }
namespace Rows
def none {H : Type} : Left H := { results := [], args := [] }

/-- 'treasurylaw40.LedgerBalances': WHATEVER THE INPUT: true; the input reads as it did. -/
def ledgerBalancesSpec : ChangeSpec := { name := "ledgerBalances", fn := fun _ => fun
  | [d1, d2] => { results := [.lit (.bool true)], args := [d1, d2] }
  | _ => none }
def ledgerBalancesRow : OpenClaim := { program := "ytoelidndnajedab", sum := "e20acf3c448f4b09bf114583a2abd411381e2d85efb652ca3c3814cbb59a1279", func := "treasury/treasurylaw40.LedgerBalances", spec := "ledgerBalances", unfollowed := true, recurses := true, apart := false }
def LedgerBalancesSaid : Prop := ledgerBalancesRow.holds Try.pinned (OpenSpec.ofChange ledgerBalancesSpec)

/-- ITS FALSE NEIGHBOUR: 'it returns false'. Refute it at one input. -/
def ledgerBalancesWrong : ChangeSpec := { name := "ledgerBalances", fn := fun _ => fun
  | [d1, d2] => { results := [.lit (.bool false)], args := [d1, d2] }
  | _ => none }
def LedgerBalancesWrongFalsely : Prop := ledgerBalancesRow.holds Try.pinned (OpenSpec.ofChange ledgerBalancesWrong)

/-- 'treasurylaw40.LedgerSpans': WHATEVER THE INPUT: true; the input reads as it did. -/
def ledgerSpansSpec : ChangeSpec := { name := "ledgerSpans", fn := fun _ => fun
  | [d1, d2, d3] => { results := [.lit (.bool true)], args := [d1, d2, d3] }
  | _ => none }
def ledgerSpansRow : OpenClaim := { program := "ytoelidndnajedab", sum := "e20acf3c448f4b09bf114583a2abd411381e2d85efb652ca3c3814cbb59a1279", func := "treasury/treasurylaw40.LedgerSpans", spec := "ledgerSpans", unfollowed := true, recurses := true, apart := false }
def LedgerSpansSaid : Prop := ledgerSpansRow.holds Try.pinned (OpenSpec.ofChange ledgerSpansSpec)

/-- ITS FALSE NEIGHBOUR: 'it returns false'. Refute it at one input. -/
def ledgerSpansWrong : ChangeSpec := { name := "ledgerSpans", fn := fun _ => fun
  | [d1, d2, d3] => { results := [.lit (.bool false)], args := [d1, d2, d3] }
  | _ => none }
def LedgerSpansWrongFalsely : Prop := ledgerSpansRow.holds Try.pinned (OpenSpec.ofChange ledgerSpansWrong)

/-- 'treasurylaw40.LedgerStatements': WHATEVER THE INPUT: true; the input reads as it did. -/
def ledgerStatementsSpec : ChangeSpec := { name := "ledgerStatements", fn := fun _ => fun
  | [d1, d2, d3] => { results := [.lit (.bool true)], args := [d1, d2, d3] }
  | _ => none }
def ledgerStatementsRow : OpenClaim := { program := "ytoelidndnajedab", sum := "e20acf3c448f4b09bf114583a2abd411381e2d85efb652ca3c3814cbb59a1279", func := "treasury/treasurylaw40.LedgerStatements", spec := "ledgerStatements", unfollowed := true, recurses := true, apart := false }
def LedgerStatementsSaid : Prop := ledgerStatementsRow.holds Try.pinned (OpenSpec.ofChange ledgerStatementsSpec)

/-- ITS FALSE NEIGHBOUR: 'it returns false'. Refute it at one input. -/
def ledgerStatementsWrong : ChangeSpec := { name := "ledgerStatements", fn := fun _ => fun
  | [d1, d2, d3] => { results := [.lit (.bool false)], args := [d1, d2, d3] }
  | _ => none }
def LedgerStatementsWrongFalsely : Prop := ledgerStatementsRow.holds Try.pinned (OpenSpec.ofChange ledgerStatementsWrong)

/-- 'treasurylaw40.LedgerTurns': WHATEVER THE INPUT: true; the input reads as it did. -/
def ledgerTurnsSpec : ChangeSpec := { name := "ledgerTurns", fn := fun _ => fun
  | [d] => { results := [.lit (.bool true)], args := [d] }
  | _ => none }
def ledgerTurnsRow : OpenClaim := { program := "ytoelidndnajedab", sum := "e20acf3c448f4b09bf114583a2abd411381e2d85efb652ca3c3814cbb59a1279", func := "treasury/treasurylaw40.LedgerTurns", spec := "ledgerTurns", unfollowed := true, recurses := true, apart := false }
def LedgerTurnsSaid : Prop := ledgerTurnsRow.holds Try.pinned (OpenSpec.ofChange ledgerTurnsSpec)

/-- ITS FALSE NEIGHBOUR: 'it returns false'. Refute it at one input. -/
def ledgerTurnsWrong : ChangeSpec := { name := "ledgerTurns", fn := fun _ => fun
  | [d] => { results := [.lit (.bool false)], args := [d] }
  | _ => none }
def LedgerTurnsWrongFalsely : Prop := ledgerTurnsRow.holds Try.pinned (OpenSpec.ofChange ledgerTurnsWrong)

/-- 'treasurylaw40.LedgerEntries': WHATEVER THE INPUT: true; the input reads as it did. -/
def ledgerEntriesSpec : ChangeSpec := { name := "ledgerEntries", fn := fun _ => fun
  | [d1, d2] => { results := [.lit (.bool true)], args := [d1, d2] }
  | _ => none }
def ledgerEntriesRow : OpenClaim := { program := "ytoelidndnajedab", sum := "e20acf3c448f4b09bf114583a2abd411381e2d85efb652ca3c3814cbb59a1279", func := "treasury/treasurylaw40.LedgerEntries", spec := "ledgerEntries", unfollowed := true, recurses := true, apart := false }
def LedgerEntriesSaid : Prop := ledgerEntriesRow.holds Try.pinned (OpenSpec.ofChange ledgerEntriesSpec)

/-- ITS FALSE NEIGHBOUR: 'it returns false'. Refute it at one input. -/
def ledgerEntriesWrong : ChangeSpec := { name := "ledgerEntries", fn := fun _ => fun
  | [d1, d2] => { results := [.lit (.bool false)], args := [d1, d2] }
  | _ => none }
def LedgerEntriesWrongFalsely : Prop := ledgerEntriesRow.holds Try.pinned (OpenSpec.ofChange ledgerEntriesWrong)

/- THE SECOND FORM. 'bulk': how many values and letters a reading holds, each counted each time it is reached (what is shared counts as often as it is met; a slice's spare places count too). A statement '..UptoSaid' is the law's where the arguments, and the package variables that the reading takes, are together of bulk at most 1048576: NARROWER than '..Said'. Prove '..Said' where nothing that the law and all that it calls make is longer than what came in: it says more and counts as full. Else prove '..UptoSaid'. A law counts once. -/
mutual
def uptoBulk {H : Type} : DataW H → Nat
  | .lit (.string bytes) => bytes.length + 1
  | .lit _ => 1
  | .nil => 1
  | .ptr d => uptoBulk d + 1
  | .slice elems spare => uptoBulkAll elems + uptoBulkAll spare + 1
  | .agg parts => uptoBulkAll parts + 1
  | .iface _ d => uptoBulk d + 1
  | .map entries => uptoBulkEntries entries + 1
  | .held _ => 1
def uptoBulkAll {H : Type} : List (DataW H) → Nat
  | [] => 0
  | d :: r => uptoBulk d + uptoBulkAll r
def uptoBulkEntries {H : Type} : List (Lit × DataW H) → Nat
  | [] => 0
  | x :: r => uptoBulkEntry x + uptoBulkEntries r
def uptoBulkEntry {H : Type} : Lit × DataW H → Nat
  | (.string bytes, d) => bytes.length + uptoBulk d + 1
  | (_, d) => uptoBulk d + 1
 end
def uptoSmall : (H : Type) → List (DataW H) → Bool := fun _ ds => decide (uptoBulkAll ds ≤ 1048576)
def OpenSpec.upto (s : _root_.Go.ChangeSpec) : _root_.Go.OpenSpec := { _root_.Go.OpenSpec.ofChange s with cond := some uptoSmall }

/-- 'treasurylaw40.LedgerBalances', WHERE WHAT IT READS IS OF BULK AT MOST 1048576: true; the input reads as it did. -/
def ledgerBalancesUptoRow : OpenClaim := { program := "ytoelidndnajedab", sum := "e20acf3c448f4b09bf114583a2abd411381e2d85efb652ca3c3814cbb59a1279", func := "treasury/treasurylaw40.LedgerBalances", spec := "ledgerBalances", unfollowed := true, recurses := true, apart := false, narrowed := true }
def LedgerBalancesUptoSaid : Prop := ledgerBalancesUptoRow.holds Try.pinned (OpenSpec.upto ledgerBalancesSpec)

/-- 'treasurylaw40.LedgerSpans', WHERE WHAT IT READS IS OF BULK AT MOST 1048576: true; the input reads as it did. -/
def ledgerSpansUptoRow : OpenClaim := { program := "ytoelidndnajedab", sum := "e20acf3c448f4b09bf114583a2abd411381e2d85efb652ca3c3814cbb59a1279", func := "treasury/treasurylaw40.LedgerSpans", spec := "ledgerSpans", unfollowed := true, recurses := true, apart := false, narrowed := true }
def LedgerSpansUptoSaid : Prop := ledgerSpansUptoRow.holds Try.pinned (OpenSpec.upto ledgerSpansSpec)

/-- 'treasurylaw40.LedgerStatements', WHERE WHAT IT READS IS OF BULK AT MOST 1048576: true; the input reads as it did. -/
def ledgerStatementsUptoRow : OpenClaim := { program := "ytoelidndnajedab", sum := "e20acf3c448f4b09bf114583a2abd411381e2d85efb652ca3c3814cbb59a1279", func := "treasury/treasurylaw40.LedgerStatements", spec := "ledgerStatements", unfollowed := true, recurses := true, apart := false, narrowed := true }
def LedgerStatementsUptoSaid : Prop := ledgerStatementsUptoRow.holds Try.pinned (OpenSpec.upto ledgerStatementsSpec)

/-- 'treasurylaw40.LedgerTurns', WHERE WHAT IT READS IS OF BULK AT MOST 1048576: true; the input reads as it did. -/
def ledgerTurnsUptoRow : OpenClaim := { program := "ytoelidndnajedab", sum := "e20acf3c448f4b09bf114583a2abd411381e2d85efb652ca3c3814cbb59a1279", func := "treasury/treasurylaw40.LedgerTurns", spec := "ledgerTurns", unfollowed := true, recurses := true, apart := false, narrowed := true }
def LedgerTurnsUptoSaid : Prop := ledgerTurnsUptoRow.holds Try.pinned (OpenSpec.upto ledgerTurnsSpec)

/-- 'treasurylaw40.LedgerEntries', WHERE WHAT IT READS IS OF BULK AT MOST 1048576: true; the input reads as it did. -/
def ledgerEntriesUptoRow : OpenClaim := { program := "ytoelidndnajedab", sum := "e20acf3c448f4b09bf114583a2abd411381e2d85efb652ca3c3814cbb59a1279", func := "treasury/treasurylaw40.LedgerEntries", spec := "ledgerEntries", unfollowed := true, recurses := true, apart := false, narrowed := true }
def LedgerEntriesUptoSaid : Prop := ledgerEntriesUptoRow.holds Try.pinned (OpenSpec.upto ledgerEntriesSpec)

end Rows
end Go.Proofs.Ytoelidndnajedab
