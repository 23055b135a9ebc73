/-
  DERIVED. GIVEN WITH THE SEED: THE CARDS: each row of YtionnohajnnfmaaGreatDoorRows.lean that lists a variable, with what it lists TIED to the program's text (the seventh form; the later family's looks); each row that meets fmt, with fmt's text TOLD by the authors' own Lean function (tested against real Go, not proved from fmt's source: count such statements apart). THE CARD IS WHAT COUNTS. Prove the row's statement (the work); the ties are given (YtionnohajnnfmaaGreatDoorTie.lean); close each card by the builder's one call (the guide's Derived/Test/ToyasCard.lean, 'card_holds'). Laid BY PROGRAM, IN A SANDBOX (cutbox-door.mjs). By AI agents, Wed Nov 11 2026. No macro, syntax, notation, axiom, sorry.
-/
import Derived.Test.YtionnohajnnfmaaGreatDoorRows
import GoSem.ClaimSeven
namespace Go.Proofs.YtionnohajnnfmaaGreatDoor
namespace Rows

/-- THE TIED CARD OF 'treasurylaw03.ClassificationTexts'. -/
def classificationTextsCard : Claim7 := { stood := { row := classificationTextsRow, standIns := [], harness := (true, "e003b71c4f544874a7274cd16dc463c3e7df04a6413ec19122a85eb435168370"), looks := true }, kinds := [], alts := [], laidByText := true, laidKinds := [.data, .data, .data, .data, .sentinel, .sentinel, .pinned], laidTests := true, laidLooks := .later }
def ClassificationTextsCardSaid : Prop := Claim7.holds Tryz.pinned (.plain (OpenSpec.ofChange classificationTextsSpec)) classificationTextsCard

/-- THE TIED CARD OF 'treasurylaw04.ArticleAnswers'. -/
def articleAnswersCard : Claim7 := { stood := { row := articleAnswersRow, standIns := [], harness := (true, "e003b71c4f544874a7274cd16dc463c3e7df04a6413ec19122a85eb435168370"), looks := true }, kinds := [], alts := [], laidByText := true, laidKinds := [.data, .data, .data, .data, .sentinel, .sentinel, .pinned], laidTests := true, laidLooks := .later }
def ArticleAnswersCardSaid : Prop := Claim7.holds Tryz.pinned (.plain (OpenSpec.ofChange articleAnswersSpec)) articleAnswersCard

/-- THE TIED CARD OF 'treasurylaw04.ArticleBack'. -/
def articleBackCard : Claim7 := { stood := { row := articleBackRow, standIns := [], harness := (true, "e003b71c4f544874a7274cd16dc463c3e7df04a6413ec19122a85eb435168370"), looks := true }, kinds := [], alts := [], laidByText := true, laidKinds := [.data, .data, .data, .data, .sentinel, .sentinel, .pinned], laidTests := true, laidLooks := .later }
def ArticleBackCardSaid : Prop := Claim7.holds Tryz.pinned (.plain (OpenSpec.ofChange articleBackSpec)) articleBackCard

/-- THE TIED CARD OF 'treasurylaw04.ArticleOrders'. -/
def articleOrdersCard : Claim7 := { stood := { row := articleOrdersRow, standIns := [], harness := (true, "e003b71c4f544874a7274cd16dc463c3e7df04a6413ec19122a85eb435168370"), looks := true }, kinds := [], alts := [], laidByText := true, laidKinds := [.data, .data, .data, .data, .sentinel, .sentinel, .pinned], laidTests := true, laidLooks := .later }
def ArticleOrdersCardSaid : Prop := Claim7.holds Tryz.pinned (.plain (OpenSpec.ofChange articleOrdersSpec)) articleOrdersCard

/-- THE TIED CARD OF 'treasurylaw04.ArticleFields'. -/
def articleFieldsCard : Claim7 := { stood := { row := articleFieldsRow, standIns := [], harness := (true, "e003b71c4f544874a7274cd16dc463c3e7df04a6413ec19122a85eb435168370"), looks := true }, kinds := [], alts := [], laidByText := true, laidKinds := [.data, .data, .data, .data, .sentinel, .sentinel, .pinned], laidTests := true, laidLooks := .later }
def ArticleFieldsCardSaid : Prop := Claim7.holds Tryz.pinned (.plain (OpenSpec.ofChange articleFieldsSpec)) articleFieldsCard

/-- THE SECOND FORM's CARD OF 'treasurylaw03.ClassificationTexts'. -/
def classificationTextsUptoCard : Claim7 := { stood := { row := classificationTextsUptoRow, standIns := [], harness := (true, "e003b71c4f544874a7274cd16dc463c3e7df04a6413ec19122a85eb435168370"), looks := true }, kinds := [], alts := [], laidByText := true, laidKinds := [.data, .data, .data, .data, .sentinel, .sentinel, .pinned], laidTests := true, laidLooks := .later }
def ClassificationTextsUptoCardSaid : Prop := Claim7.holds Tryz.pinned (.plain (OpenSpec.upto classificationTextsSpec)) classificationTextsUptoCard

/-- THE SECOND FORM's CARD OF 'treasurylaw04.ArticleAnswers'. -/
def articleAnswersUptoCard : Claim7 := { stood := { row := articleAnswersUptoRow, standIns := [], harness := (true, "e003b71c4f544874a7274cd16dc463c3e7df04a6413ec19122a85eb435168370"), looks := true }, kinds := [], alts := [], laidByText := true, laidKinds := [.data, .data, .data, .data, .sentinel, .sentinel, .pinned], laidTests := true, laidLooks := .later }
def ArticleAnswersUptoCardSaid : Prop := Claim7.holds Tryz.pinned (.plain (OpenSpec.upto articleAnswersSpec)) articleAnswersUptoCard

/-- THE SECOND FORM's CARD OF 'treasurylaw04.ArticleBack'. -/
def articleBackUptoCard : Claim7 := { stood := { row := articleBackUptoRow, standIns := [], harness := (true, "e003b71c4f544874a7274cd16dc463c3e7df04a6413ec19122a85eb435168370"), looks := true }, kinds := [], alts := [], laidByText := true, laidKinds := [.data, .data, .data, .data, .sentinel, .sentinel, .pinned], laidTests := true, laidLooks := .later }
def ArticleBackUptoCardSaid : Prop := Claim7.holds Tryz.pinned (.plain (OpenSpec.upto articleBackSpec)) articleBackUptoCard

/-- THE SECOND FORM's CARD OF 'treasurylaw04.ArticleOrders'. -/
def articleOrdersUptoCard : Claim7 := { stood := { row := articleOrdersUptoRow, standIns := [], harness := (true, "e003b71c4f544874a7274cd16dc463c3e7df04a6413ec19122a85eb435168370"), looks := true }, kinds := [], alts := [], laidByText := true, laidKinds := [.data, .data, .data, .data, .sentinel, .sentinel, .pinned], laidTests := true, laidLooks := .later }
def ArticleOrdersUptoCardSaid : Prop := Claim7.holds Tryz.pinned (.plain (OpenSpec.upto articleOrdersSpec)) articleOrdersUptoCard

/-- THE SECOND FORM's CARD OF 'treasurylaw04.ArticleFields'. -/
def articleFieldsUptoCard : Claim7 := { stood := { row := articleFieldsUptoRow, standIns := [], harness := (true, "e003b71c4f544874a7274cd16dc463c3e7df04a6413ec19122a85eb435168370"), looks := true }, kinds := [], alts := [], laidByText := true, laidKinds := [.data, .data, .data, .data, .sentinel, .sentinel, .pinned], laidTests := true, laidLooks := .later }
def ArticleFieldsUptoCardSaid : Prop := Claim7.holds Tryz.pinned (.plain (OpenSpec.upto articleFieldsSpec)) articleFieldsUptoCard
end Rows
end Go.Proofs.YtionnohajnnfmaaGreatDoor
