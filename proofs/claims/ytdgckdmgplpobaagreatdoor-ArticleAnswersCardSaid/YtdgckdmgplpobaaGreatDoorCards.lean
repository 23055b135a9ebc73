/-
  DERIVED. GIVEN WITH THE SEED: THE CARDS: each row of YtdgckdmgplpobaaGreatDoorRows.lean that lists a variable, with what it lists TIED to the program's text (the seventh form; the later family's looks); each row that meets fmt, with fmt's text TOLD by the authors' own Lean function (tested against real Go, not proved from fmt's source: count such statements apart). THE CARD IS WHAT COUNTS. Prove the row's statement (the work); the ties are given (YtdgckdmgplpobaaGreatDoorTie.lean); close each card by the builder's one call (the guide's Derived/Test/ToyasCard.lean, 'card_holds'). Laid BY PROGRAM, IN A SANDBOX (cutbox-door.mjs). By AI agents, Wed Nov 11 2026. No macro, syntax, notation, axiom, sorry.
-/
import Derived.Test.YtdgckdmgplpobaaGreatDoorRows
import GoSem.ClaimSeven
namespace Go.Proofs.YtdgckdmgplpobaaGreatDoor
namespace Rows

/-- THE TIED CARD OF 'treasurylaw04.ArticleAnswers'. -/
def articleAnswersCard : Claim7 := { stood := { row := articleAnswersRow, standIns := [], harness := (true, "7745a57818502f1554a0125e0d4a61dde285a5da4cb166d3fd74df8a95b198cf"), looks := true }, kinds := [], alts := [], laidByText := true, laidKinds := [.data, .data, .data, .data, .sentinel, .sentinel, .pinned], laidTests := true, laidLooks := .later }
def ArticleAnswersCardSaid : Prop := Claim7.holds Tryz.pinned (.plain (OpenSpec.ofChange articleAnswersSpec)) articleAnswersCard

/-- THE SECOND FORM's CARD OF 'treasurylaw04.ArticleAnswers'. -/
def articleAnswersUptoCard : Claim7 := { stood := { row := articleAnswersUptoRow, standIns := [], harness := (true, "7745a57818502f1554a0125e0d4a61dde285a5da4cb166d3fd74df8a95b198cf"), looks := true }, kinds := [], alts := [], laidByText := true, laidKinds := [.data, .data, .data, .data, .sentinel, .sentinel, .pinned], laidTests := true, laidLooks := .later }
def ArticleAnswersUptoCardSaid : Prop := Claim7.holds Tryz.pinned (.plain (OpenSpec.upto articleAnswersSpec)) articleAnswersUptoCard
end Rows
end Go.Proofs.YtdgckdmgplpobaaGreatDoor
