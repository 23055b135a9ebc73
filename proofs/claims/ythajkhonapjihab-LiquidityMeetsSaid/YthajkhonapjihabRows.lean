/-
  No cell of these rows narrows 'for every input' (looked for: loops, veiled, ifaces, maps, wideKeys, modest, calm, conditions, laid).
  DERIVED. THE GIVEN ROWS OF THIS SEAT. 4 by the template 'for every input the law returns true; each argument reads behind the call as it read before'; 0 by the template 'total and deterministic' (their statements: YthajkhonapjihabTotals.lean).
  GIVEN WITH THE SEED: the statements are not yours to turn. If you find one false, say at which input.
  Laid BY PROGRAM, IN A SANDBOX (cutbox-rows.mjs): the forced cells as the released guide's own fill.sh prints them over the translation 7659aaa04a864c79… (all of the seat's roots in one cut). By AI agents, Wed Nov 11 2026. No macro, syntax, notation, axiom, sorry.
-/
import Derived.Test.YthajkhonapjihabChecked
import GoSem.Claim
import GoSem.ClaimJoined
import GoSem.ClaimMapViews
import Derived.JoinedTies
import Derived.KernelRfl
namespace Go.Proofs.Ythajkhonapjihab
/- THE CELL 'sum', in the pinned program and in every row, IS THE sha256 OF THE DUMP (.gsa) THAT YthajkhonapjihabProg.lean LOADS. Nothing in Lean hashes anything: it is a label: what it is worth is what the hold of that sum in a sandbox is worth. -/
noncomputable def Try.pinned : Pinned := { name := "ythajkhonapjihab", sum := "7659aaa04a864c797daab4f21dfb027875da69d799f1f56b3efa057a32f0237e", checked := Try.checked }
namespace Rows
def none {H : Type} : Left H := { results := [], args := [] }

/-- 'treasurylaw36.IndexGrows': WHATEVER THE INPUT: true; the input reads as it did. -/
def indexGrowsSpec : ChangeSpec := { name := "indexGrows", fn := fun _ => fun
  | [d1, d2, d3] => { results := [.lit (.bool true)], args := [d1, d2, d3] }
  | _ => none }
def indexGrowsRow : OpenClaim := { program := "ythajkhonapjihab", sum := "7659aaa04a864c797daab4f21dfb027875da69d799f1f56b3efa057a32f0237e", func := "treasury/treasurylaw36.IndexGrows", spec := "indexGrows", unfollowed := true, recurses := true, apart := false }
def IndexGrowsSaid : Prop := indexGrowsRow.holds Try.pinned (OpenSpec.ofChange indexGrowsSpec)

/-- ITS FALSE NEIGHBOUR: 'it returns false'. Refute it at one input. -/
def indexGrowsWrong : ChangeSpec := { name := "indexGrows", fn := fun _ => fun
  | [d1, d2, d3] => { results := [.lit (.bool false)], args := [d1, d2, d3] }
  | _ => none }
def IndexGrowsWrongFalsely : Prop := indexGrowsRow.holds Try.pinned (OpenSpec.ofChange indexGrowsWrong)

/-- 'treasurylaw36.IndexChains': WHATEVER THE INPUT: true; the input reads as it did. -/
def indexChainsSpec : ChangeSpec := { name := "indexChains", fn := fun _ => fun
  | [d1, d2] => { results := [.lit (.bool true)], args := [d1, d2] }
  | _ => none }
def indexChainsRow : OpenClaim := { program := "ythajkhonapjihab", sum := "7659aaa04a864c797daab4f21dfb027875da69d799f1f56b3efa057a32f0237e", func := "treasury/treasurylaw36.IndexChains", spec := "indexChains", unfollowed := true, recurses := true, apart := false }
def IndexChainsSaid : Prop := indexChainsRow.holds Try.pinned (OpenSpec.ofChange indexChainsSpec)

/-- ITS FALSE NEIGHBOUR: 'it returns false'. Refute it at one input. -/
def indexChainsWrong : ChangeSpec := { name := "indexChains", fn := fun _ => fun
  | [d1, d2] => { results := [.lit (.bool false)], args := [d1, d2] }
  | _ => none }
def IndexChainsWrongFalsely : Prop := indexChainsRow.holds Try.pinned (OpenSpec.ofChange indexChainsWrong)

/-- 'treasurylaw35.ReopeningCosts': WHATEVER THE INPUT: true; the input reads as it did. -/
def reopeningCostsSpec : ChangeSpec := { name := "reopeningCosts", fn := fun _ => fun
  | [d1, d2, d3] => { results := [.lit (.bool true)], args := [d1, d2, d3] }
  | _ => none }
def reopeningCostsRow : OpenClaim := { program := "ythajkhonapjihab", sum := "7659aaa04a864c797daab4f21dfb027875da69d799f1f56b3efa057a32f0237e", func := "treasury/treasurylaw35.ReopeningCosts", spec := "reopeningCosts", apart := false }
def ReopeningCostsSaid : Prop := reopeningCostsRow.holds Try.pinned (OpenSpec.ofChange reopeningCostsSpec)

/-- ITS FALSE NEIGHBOUR: 'it returns false'. Refute it at one input. -/
def reopeningCostsWrong : ChangeSpec := { name := "reopeningCosts", fn := fun _ => fun
  | [d1, d2, d3] => { results := [.lit (.bool false)], args := [d1, d2, d3] }
  | _ => none }
def ReopeningCostsWrongFalsely : Prop := reopeningCostsRow.holds Try.pinned (OpenSpec.ofChange reopeningCostsWrong)

/-- 'treasurylaw30.LiquidityMeets': WHATEVER THE INPUT: true; the input reads as it did. -/
def liquidityMeetsSpec : ChangeSpec := { name := "liquidityMeets", fn := fun _ => fun
  | [d] => { results := [.lit (.bool true)], args := [d] }
  | _ => none }
def liquidityMeetsRow : OpenClaim := { program := "ythajkhonapjihab", sum := "7659aaa04a864c797daab4f21dfb027875da69d799f1f56b3efa057a32f0237e", func := "treasury/treasurylaw30.LiquidityMeets", spec := "liquidityMeets", unfollowed := true, recurses := true, apart := false }
def LiquidityMeetsSaid : Prop := liquidityMeetsRow.holds Try.pinned (OpenSpec.ofChange liquidityMeetsSpec)

/-- ITS FALSE NEIGHBOUR: 'it returns false'. Refute it at one input. -/
def liquidityMeetsWrong : ChangeSpec := { name := "liquidityMeets", fn := fun _ => fun
  | [d] => { results := [.lit (.bool false)], args := [d] }
  | _ => none }
def LiquidityMeetsWrongFalsely : Prop := liquidityMeetsRow.holds Try.pinned (OpenSpec.ofChange liquidityMeetsWrong)

/- THE SECOND FORM. 'bulk': how many values and letters a reading holds, each counted each time it is reached (what is shared counts as often as it is met; a slice's spare places count too). A statement '..UptoSaid' is the law's where the arguments, and the package variables that the reading takes, are together of bulk at most 1048576: NARROWER than '..Said'. Prove '..Said' where nothing that the law and all that it calls make is longer than what came in: it says more and counts as full. Else prove '..UptoSaid'. A law counts once. -/
mutual
def uptoBulk {H : Type} : DataW H → Nat
  | .lit (.string bytes) => bytes.length + 1
  | .lit _ => 1
  | .nil => 1
  | .ptr d => uptoBulk d + 1
  | .slice elems spare => uptoBulkAll elems + uptoBulkAll spare + 1
  | .agg parts => uptoBulkAll parts + 1
  | .iface _ d => uptoBulk d + 1
  | .map entries => uptoBulkEntries entries + 1
  | .held _ => 1
def uptoBulkAll {H : Type} : List (DataW H) → Nat
  | [] => 0
  | d :: r => uptoBulk d + uptoBulkAll r
def uptoBulkEntries {H : Type} : List (Lit × DataW H) → Nat
  | [] => 0
  | x :: r => uptoBulkEntry x + uptoBulkEntries r
def uptoBulkEntry {H : Type} : Lit × DataW H → Nat
  | (.string bytes, d) => bytes.length + uptoBulk d + 1
  | (_, d) => uptoBulk d + 1
 end
def uptoSmall : (H : Type) → List (DataW H) → Bool := fun _ ds => decide (uptoBulkAll ds ≤ 1048576)
def OpenSpec.upto (s : _root_.Go.ChangeSpec) : _root_.Go.OpenSpec := { _root_.Go.OpenSpec.ofChange s with cond := some uptoSmall }

/-- 'treasurylaw36.IndexGrows', WHERE WHAT IT READS IS OF BULK AT MOST 1048576: true; the input reads as it did. -/
def indexGrowsUptoRow : OpenClaim := { program := "ythajkhonapjihab", sum := "7659aaa04a864c797daab4f21dfb027875da69d799f1f56b3efa057a32f0237e", func := "treasury/treasurylaw36.IndexGrows", spec := "indexGrows", unfollowed := true, recurses := true, apart := false, narrowed := true }
def IndexGrowsUptoSaid : Prop := indexGrowsUptoRow.holds Try.pinned (OpenSpec.upto indexGrowsSpec)

/-- 'treasurylaw36.IndexChains', WHERE WHAT IT READS IS OF BULK AT MOST 1048576: true; the input reads as it did. -/
def indexChainsUptoRow : OpenClaim := { program := "ythajkhonapjihab", sum := "7659aaa04a864c797daab4f21dfb027875da69d799f1f56b3efa057a32f0237e", func := "treasury/treasurylaw36.IndexChains", spec := "indexChains", unfollowed := true, recurses := true, apart := false, narrowed := true }
def IndexChainsUptoSaid : Prop := indexChainsUptoRow.holds Try.pinned (OpenSpec.upto indexChainsSpec)

/-- 'treasurylaw35.ReopeningCosts', WHERE WHAT IT READS IS OF BULK AT MOST 1048576: true; the input reads as it did. -/
def reopeningCostsUptoRow : OpenClaim := { program := "ythajkhonapjihab", sum := "7659aaa04a864c797daab4f21dfb027875da69d799f1f56b3efa057a32f0237e", func := "treasury/treasurylaw35.ReopeningCosts", spec := "reopeningCosts", apart := false, narrowed := true }
def ReopeningCostsUptoSaid : Prop := reopeningCostsUptoRow.holds Try.pinned (OpenSpec.upto reopeningCostsSpec)

/-- 'treasurylaw30.LiquidityMeets', WHERE WHAT IT READS IS OF BULK AT MOST 1048576: true; the input reads as it did. -/
def liquidityMeetsUptoRow : OpenClaim := { program := "ythajkhonapjihab", sum := "7659aaa04a864c797daab4f21dfb027875da69d799f1f56b3efa057a32f0237e", func := "treasury/treasurylaw30.LiquidityMeets", spec := "liquidityMeets", unfollowed := true, recurses := true, apart := false, narrowed := true }
def LiquidityMeetsUptoSaid : Prop := liquidityMeetsUptoRow.holds Try.pinned (OpenSpec.upto liquidityMeetsSpec)

end Rows
end Go.Proofs.Ythajkhonapjihab
