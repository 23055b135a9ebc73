/-
  DERIVED. GIVEN WITH THE SEED: THE CARDS: each row of YtdedihdkkaoapaaGreatDoorRows.lean that lists a variable, with what it lists TIED to the program's text (the seventh form; the later family's looks); each row that meets fmt, with fmt's text TOLD by the authors' own Lean function (tested against real Go, not proved from fmt's source: count such statements apart). THE CARD IS WHAT COUNTS. Prove the row's statement (the work); the ties are given (YtdedihdkkaoapaaGreatDoorTie.lean); close each card by the builder's one call (the guide's Derived/Test/ToyasCard.lean, 'card_holds'). Laid BY PROGRAM, IN A SANDBOX (cutbox-door.mjs). By AI agents, Wed Nov 11 2026. No macro, syntax, notation, axiom, sorry.
-/
import Derived.Test.YtdedihdkkaoapaaGreatDoorRows
import GoSem.ClaimSeven
namespace Go.Proofs.YtdedihdkkaoapaaGreatDoor
namespace Rows

/-- THE TIED CARD OF 'treasurylaw04.ArticleAnswers'. -/
def articleAnswersCard : Claim7 := { stood := { row := articleAnswersRow, standIns := [], harness := (true, "bb2a936288cece6ecbc7e098b8ccfeca5c81f9b03011387479e06795b5d90b9d"), looks := true }, kinds := [], alts := [], laidByText := true, laidKinds := [.data, .data, .data, .data, .sentinel, .sentinel, .pinned], laidTests := true, laidLooks := .later }
def ArticleAnswersCardSaid : Prop := Claim7.holds Tryz.pinned (.plain (OpenSpec.ofChange articleAnswersSpec)) articleAnswersCard

/-- THE TIED CARD OF 'treasurylaw04.ArticleBack'. -/
def articleBackCard : Claim7 := { stood := { row := articleBackRow, standIns := [], harness := (true, "bb2a936288cece6ecbc7e098b8ccfeca5c81f9b03011387479e06795b5d90b9d"), looks := true }, kinds := [], alts := [], laidByText := true, laidKinds := [.data, .data, .data, .data, .sentinel, .sentinel, .pinned], laidTests := true, laidLooks := .later }
def ArticleBackCardSaid : Prop := Claim7.holds Tryz.pinned (.plain (OpenSpec.ofChange articleBackSpec)) articleBackCard

/-- THE SECOND FORM's CARD OF 'treasurylaw04.ArticleAnswers'. -/
def articleAnswersUptoCard : Claim7 := { stood := { row := articleAnswersUptoRow, standIns := [], harness := (true, "bb2a936288cece6ecbc7e098b8ccfeca5c81f9b03011387479e06795b5d90b9d"), looks := true }, kinds := [], alts := [], laidByText := true, laidKinds := [.data, .data, .data, .data, .sentinel, .sentinel, .pinned], laidTests := true, laidLooks := .later }
def ArticleAnswersUptoCardSaid : Prop := Claim7.holds Tryz.pinned (.plain (OpenSpec.upto articleAnswersSpec)) articleAnswersUptoCard

/-- THE SECOND FORM's CARD OF 'treasurylaw04.ArticleBack'. -/
def articleBackUptoCard : Claim7 := { stood := { row := articleBackUptoRow, standIns := [], harness := (true, "bb2a936288cece6ecbc7e098b8ccfeca5c81f9b03011387479e06795b5d90b9d"), looks := true }, kinds := [], alts := [], laidByText := true, laidKinds := [.data, .data, .data, .data, .sentinel, .sentinel, .pinned], laidTests := true, laidLooks := .later }
def ArticleBackUptoCardSaid : Prop := Claim7.holds Tryz.pinned (.plain (OpenSpec.upto articleBackSpec)) articleBackUptoCard
end Rows
end Go.Proofs.YtdedihdkkaoapaaGreatDoor
