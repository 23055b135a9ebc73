/-
  No cell of these rows narrows 'for every input' (looked for: loops, veiled, ifaces, maps, wideKeys, modest, calm, conditions, laid).
  DERIVED. THE GIVEN ROWS OF THIS SEAT. 5 by the template 'for every input the law returns true; each argument reads behind the call as it read before'; 0 by the template 'total and deterministic' (their statements: YtoccnindkimjdaaTotals.lean).
  GIVEN WITH THE SEED: the statements are not yours to turn. If you find one false, say at which input.
  Laid BY PROGRAM, IN A SANDBOX (cutbox-rows.mjs): the forced cells as the released guide's own fill.sh prints them over the translation f31dd97879434f4c… (all of the seat's roots in one cut). By AI agents, Wed Nov 11 2026. No macro, syntax, notation, axiom, sorry.
-/
import Derived.Test.YtoccnindkimjdaaChecked
import GoSem.Claim
import GoSem.ClaimJoined
import GoSem.ClaimMapViews
import Derived.JoinedTies
import Derived.KernelRfl
namespace Go.Proofs.Ytoccnindkimjdaa
/- THE CELL 'sum', in the pinned program and in every row, IS THE sha256 OF THE DUMP (.gsa) THAT YtoccnindkimjdaaProg.lean LOADS. Nothing in Lean hashes anything: it is a label: what it is worth is what the hold of that sum in a sandbox is worth. -/
noncomputable def Try.pinned : Pinned := { name := "ytoccnindkimjdaa", sum := "f31dd97879434f4ca96e5e1d22f1dca36cd8773c54e9fd1cd72cd77c677d89b2", checked := Try.checked }
namespace Rows
def none {H : Type} : Left H := { results := [], args := [] }

/-- 'treasurylaw44.RestatementKeeps': WHATEVER THE INPUT: true; the input reads as it did. -/
def restatementKeepsSpec : ChangeSpec := { name := "restatementKeeps", fn := fun _ => fun
  | [d] => { results := [.lit (.bool true)], args := [d] }
  | _ => none }
def restatementKeepsRow : OpenClaim := { program := "ytoccnindkimjdaa", sum := "f31dd97879434f4ca96e5e1d22f1dca36cd8773c54e9fd1cd72cd77c677d89b2", func := "treasury/treasurylaw44.RestatementKeeps", spec := "restatementKeeps", unfollowed := true, recurses := true, apart := false }
def RestatementKeepsSaid : Prop := restatementKeepsRow.holds Try.pinned (OpenSpec.ofChange restatementKeepsSpec)

/-- ITS FALSE NEIGHBOUR: 'it returns false'. Refute it at one input. -/
def restatementKeepsWrong : ChangeSpec := { name := "restatementKeeps", fn := fun _ => fun
  | [d] => { results := [.lit (.bool false)], args := [d] }
  | _ => none }
def RestatementKeepsWrongFalsely : Prop := restatementKeepsRow.holds Try.pinned (OpenSpec.ofChange restatementKeepsWrong)

/-- 'treasurylaw44.RestatementExplains': WHATEVER THE INPUT: true; the input reads as it did. -/
def restatementExplainsSpec : ChangeSpec := { name := "restatementExplains", fn := fun _ => fun
  | [d] => { results := [.lit (.bool true)], args := [d] }
  | _ => none }
def restatementExplainsRow : OpenClaim := { program := "ytoccnindkimjdaa", sum := "f31dd97879434f4ca96e5e1d22f1dca36cd8773c54e9fd1cd72cd77c677d89b2", func := "treasury/treasurylaw44.RestatementExplains", spec := "restatementExplains", unfollowed := true, recurses := true, apart := false }
def RestatementExplainsSaid : Prop := restatementExplainsRow.holds Try.pinned (OpenSpec.ofChange restatementExplainsSpec)

/-- ITS FALSE NEIGHBOUR: 'it returns false'. Refute it at one input. -/
def restatementExplainsWrong : ChangeSpec := { name := "restatementExplains", fn := fun _ => fun
  | [d] => { results := [.lit (.bool false)], args := [d] }
  | _ => none }
def RestatementExplainsWrongFalsely : Prop := restatementExplainsRow.holds Try.pinned (OpenSpec.ofChange restatementExplainsWrong)

/-- 'treasurylaw44.RestatementLater': WHATEVER THE INPUT: true; the input reads as it did. -/
def restatementLaterSpec : ChangeSpec := { name := "restatementLater", fn := fun _ => fun
  | [d] => { results := [.lit (.bool true)], args := [d] }
  | _ => none }
def restatementLaterRow : OpenClaim := { program := "ytoccnindkimjdaa", sum := "f31dd97879434f4ca96e5e1d22f1dca36cd8773c54e9fd1cd72cd77c677d89b2", func := "treasury/treasurylaw44.RestatementLater", spec := "restatementLater", unfollowed := true, recurses := true, apart := false }
def RestatementLaterSaid : Prop := restatementLaterRow.holds Try.pinned (OpenSpec.ofChange restatementLaterSpec)

/-- ITS FALSE NEIGHBOUR: 'it returns false'. Refute it at one input. -/
def restatementLaterWrong : ChangeSpec := { name := "restatementLater", fn := fun _ => fun
  | [d] => { results := [.lit (.bool false)], args := [d] }
  | _ => none }
def RestatementLaterWrongFalsely : Prop := restatementLaterRow.holds Try.pinned (OpenSpec.ofChange restatementLaterWrong)

/-- 'treasurylaw44.RestatementEffects': WHATEVER THE INPUT: true; the input reads as it did. -/
def restatementEffectsSpec : ChangeSpec := { name := "restatementEffects", fn := fun _ => fun
  | [d] => { results := [.lit (.bool true)], args := [d] }
  | _ => none }
def restatementEffectsRow : OpenClaim := { program := "ytoccnindkimjdaa", sum := "f31dd97879434f4ca96e5e1d22f1dca36cd8773c54e9fd1cd72cd77c677d89b2", func := "treasury/treasurylaw44.RestatementEffects", spec := "restatementEffects", unfollowed := true, recurses := true, apart := false }
def RestatementEffectsSaid : Prop := restatementEffectsRow.holds Try.pinned (OpenSpec.ofChange restatementEffectsSpec)

/-- ITS FALSE NEIGHBOUR: 'it returns false'. Refute it at one input. -/
def restatementEffectsWrong : ChangeSpec := { name := "restatementEffects", fn := fun _ => fun
  | [d] => { results := [.lit (.bool false)], args := [d] }
  | _ => none }
def RestatementEffectsWrongFalsely : Prop := restatementEffectsRow.holds Try.pinned (OpenSpec.ofChange restatementEffectsWrong)

/-- 'treasurylaw44.RestatementVersions': WHATEVER THE INPUT: true; the input reads as it did. -/
def restatementVersionsSpec : ChangeSpec := { name := "restatementVersions", fn := fun _ => fun
  | [d] => { results := [.lit (.bool true)], args := [d] }
  | _ => none }
def restatementVersionsRow : OpenClaim := { program := "ytoccnindkimjdaa", sum := "f31dd97879434f4ca96e5e1d22f1dca36cd8773c54e9fd1cd72cd77c677d89b2", func := "treasury/treasurylaw44.RestatementVersions", spec := "restatementVersions", unfollowed := true, recurses := true, apart := false }
def RestatementVersionsSaid : Prop := restatementVersionsRow.holds Try.pinned (OpenSpec.ofChange restatementVersionsSpec)

/-- ITS FALSE NEIGHBOUR: 'it returns false'. Refute it at one input. -/
def restatementVersionsWrong : ChangeSpec := { name := "restatementVersions", fn := fun _ => fun
  | [d] => { results := [.lit (.bool false)], args := [d] }
  | _ => none }
def RestatementVersionsWrongFalsely : Prop := restatementVersionsRow.holds Try.pinned (OpenSpec.ofChange restatementVersionsWrong)

/- THE SECOND FORM. 'bulk': how many values and letters a reading holds, each counted each time it is reached (what is shared counts as often as it is met; a slice's spare places count too). A statement '..UptoSaid' is the law's where the arguments, and the package variables that the reading takes, are together of bulk at most 1048576: NARROWER than '..Said'. Prove '..Said' where nothing that the law and all that it calls make is longer than what came in: it says more and counts as full. Else prove '..UptoSaid'. A law counts once. -/
mutual
def uptoBulk {H : Type} : DataW H → Nat
  | .lit (.string bytes) => bytes.length + 1
  | .lit _ => 1
  | .nil => 1
  | .ptr d => uptoBulk d + 1
  | .slice elems spare => uptoBulkAll elems + uptoBulkAll spare + 1
  | .agg parts => uptoBulkAll parts + 1
  | .iface _ d => uptoBulk d + 1
  | .map entries => uptoBulkEntries entries + 1
  | .held _ => 1
def uptoBulkAll {H : Type} : List (DataW H) → Nat
  | [] => 0
  | d :: r => uptoBulk d + uptoBulkAll r
def uptoBulkEntries {H : Type} : List (Lit × DataW H) → Nat
  | [] => 0
  | x :: r => uptoBulkEntry x + uptoBulkEntries r
def uptoBulkEntry {H : Type} : Lit × DataW H → Nat
  | (.string bytes, d) => bytes.length + uptoBulk d + 1
  | (_, d) => uptoBulk d + 1
 end
def uptoSmall : (H : Type) → List (DataW H) → Bool := fun _ ds => decide (uptoBulkAll ds ≤ 1048576)
def OpenSpec.upto (s : _root_.Go.ChangeSpec) : _root_.Go.OpenSpec := { _root_.Go.OpenSpec.ofChange s with cond := some uptoSmall }

/-- 'treasurylaw44.RestatementKeeps', WHERE WHAT IT READS IS OF BULK AT MOST 1048576: true; the input reads as it did. -/
def restatementKeepsUptoRow : OpenClaim := { program := "ytoccnindkimjdaa", sum := "f31dd97879434f4ca96e5e1d22f1dca36cd8773c54e9fd1cd72cd77c677d89b2", func := "treasury/treasurylaw44.RestatementKeeps", spec := "restatementKeeps", unfollowed := true, recurses := true, apart := false, narrowed := true }
def RestatementKeepsUptoSaid : Prop := restatementKeepsUptoRow.holds Try.pinned (OpenSpec.upto restatementKeepsSpec)

/-- 'treasurylaw44.RestatementExplains', WHERE WHAT IT READS IS OF BULK AT MOST 1048576: true; the input reads as it did. -/
def restatementExplainsUptoRow : OpenClaim := { program := "ytoccnindkimjdaa", sum := "f31dd97879434f4ca96e5e1d22f1dca36cd8773c54e9fd1cd72cd77c677d89b2", func := "treasury/treasurylaw44.RestatementExplains", spec := "restatementExplains", unfollowed := true, recurses := true, apart := false, narrowed := true }
def RestatementExplainsUptoSaid : Prop := restatementExplainsUptoRow.holds Try.pinned (OpenSpec.upto restatementExplainsSpec)

/-- 'treasurylaw44.RestatementLater', WHERE WHAT IT READS IS OF BULK AT MOST 1048576: true; the input reads as it did. -/
def restatementLaterUptoRow : OpenClaim := { program := "ytoccnindkimjdaa", sum := "f31dd97879434f4ca96e5e1d22f1dca36cd8773c54e9fd1cd72cd77c677d89b2", func := "treasury/treasurylaw44.RestatementLater", spec := "restatementLater", unfollowed := true, recurses := true, apart := false, narrowed := true }
def RestatementLaterUptoSaid : Prop := restatementLaterUptoRow.holds Try.pinned (OpenSpec.upto restatementLaterSpec)

/-- 'treasurylaw44.RestatementEffects', WHERE WHAT IT READS IS OF BULK AT MOST 1048576: true; the input reads as it did. -/
def restatementEffectsUptoRow : OpenClaim := { program := "ytoccnindkimjdaa", sum := "f31dd97879434f4ca96e5e1d22f1dca36cd8773c54e9fd1cd72cd77c677d89b2", func := "treasury/treasurylaw44.RestatementEffects", spec := "restatementEffects", unfollowed := true, recurses := true, apart := false, narrowed := true }
def RestatementEffectsUptoSaid : Prop := restatementEffectsUptoRow.holds Try.pinned (OpenSpec.upto restatementEffectsSpec)

/-- 'treasurylaw44.RestatementVersions', WHERE WHAT IT READS IS OF BULK AT MOST 1048576: true; the input reads as it did. -/
def restatementVersionsUptoRow : OpenClaim := { program := "ytoccnindkimjdaa", sum := "f31dd97879434f4ca96e5e1d22f1dca36cd8773c54e9fd1cd72cd77c677d89b2", func := "treasury/treasurylaw44.RestatementVersions", spec := "restatementVersions", unfollowed := true, recurses := true, apart := false, narrowed := true }
def RestatementVersionsUptoSaid : Prop := restatementVersionsUptoRow.holds Try.pinned (OpenSpec.upto restatementVersionsSpec)

end Rows
end Go.Proofs.Ytoccnindkimjdaa
