/-
  DERIVED. GIVEN WITH THE SEED: THE CARDS: each row of YtkfjjmfajeianaaGreatDoorRows.lean that lists a variable, with what it lists TIED to the program's text (the seventh form; the later family's looks); each row that meets fmt, with fmt's text TOLD by the authors' own Lean function (tested against real Go, not proved from fmt's source: count such statements apart). THE CARD IS WHAT COUNTS. Prove the row's statement (the work); the ties are given (YtkfjjmfajeianaaGreatDoorTie.lean); close each card by the builder's one call (the guide's Derived/Test/ToyasCard.lean, 'card_holds'). Laid BY PROGRAM, IN A SANDBOX (cutbox-door.mjs). By AI agents, Wed Nov 11 2026. No macro, syntax, notation, axiom, sorry.
-/
import Derived.Test.YtkfjjmfajeianaaGreatDoorRows
import GoSem.ClaimSeven
namespace Go.Proofs.YtkfjjmfajeianaaGreatDoor
namespace Rows

/-- THE TIED CARD OF 'treasurylaw04.ArticleAnswers'. -/
def articleAnswersCard : Claim7 := { stood := { row := articleAnswersRow, standIns := [], harness := (true, "0b47693d81561d2909c6b3c68ac8c91e3ca6e1f7d8157648c31dce5a7a455119"), looks := true }, kinds := [], alts := [], laidByText := true, laidKinds := [.data, .data, .data, .data, .sentinel, .sentinel, .pinned], laidTests := true, laidLooks := .later }
def ArticleAnswersCardSaid : Prop := Claim7.holds Tryz.pinned (.plain (OpenSpec.ofChange articleAnswersSpec)) articleAnswersCard

/-- THE TIED CARD OF 'treasurylaw04.ArticleBack'. -/
def articleBackCard : Claim7 := { stood := { row := articleBackRow, standIns := [], harness := (true, "0b47693d81561d2909c6b3c68ac8c91e3ca6e1f7d8157648c31dce5a7a455119"), looks := true }, kinds := [], alts := [], laidByText := true, laidKinds := [.data, .data, .data, .data, .sentinel, .sentinel, .pinned], laidTests := true, laidLooks := .later }
def ArticleBackCardSaid : Prop := Claim7.holds Tryz.pinned (.plain (OpenSpec.ofChange articleBackSpec)) articleBackCard

/-- THE TIED CARD OF 'treasurylaw04.ArticleOrders'. -/
def articleOrdersCard : Claim7 := { stood := { row := articleOrdersRow, standIns := [], harness := (true, "0b47693d81561d2909c6b3c68ac8c91e3ca6e1f7d8157648c31dce5a7a455119"), looks := true }, kinds := [], alts := [], laidByText := true, laidKinds := [.data, .data, .data, .data, .sentinel, .sentinel, .pinned], laidTests := true, laidLooks := .later }
def ArticleOrdersCardSaid : Prop := Claim7.holds Tryz.pinned (.plain (OpenSpec.ofChange articleOrdersSpec)) articleOrdersCard

/-- THE TIED CARD OF 'treasurylaw04.ArticleFields'. -/
def articleFieldsCard : Claim7 := { stood := { row := articleFieldsRow, standIns := [], harness := (true, "0b47693d81561d2909c6b3c68ac8c91e3ca6e1f7d8157648c31dce5a7a455119"), looks := true }, kinds := [], alts := [], laidByText := true, laidKinds := [.data, .data, .data, .data, .sentinel, .sentinel, .pinned], laidTests := true, laidLooks := .later }
def ArticleFieldsCardSaid : Prop := Claim7.holds Tryz.pinned (.plain (OpenSpec.ofChange articleFieldsSpec)) articleFieldsCard

/-- THE SECOND FORM's CARD OF 'treasurylaw04.ArticleAnswers'. -/
def articleAnswersUptoCard : Claim7 := { stood := { row := articleAnswersUptoRow, standIns := [], harness := (true, "0b47693d81561d2909c6b3c68ac8c91e3ca6e1f7d8157648c31dce5a7a455119"), looks := true }, kinds := [], alts := [], laidByText := true, laidKinds := [.data, .data, .data, .data, .sentinel, .sentinel, .pinned], laidTests := true, laidLooks := .later }
def ArticleAnswersUptoCardSaid : Prop := Claim7.holds Tryz.pinned (.plain (OpenSpec.upto articleAnswersSpec)) articleAnswersUptoCard

/-- THE SECOND FORM's CARD OF 'treasurylaw04.ArticleBack'. -/
def articleBackUptoCard : Claim7 := { stood := { row := articleBackUptoRow, standIns := [], harness := (true, "0b47693d81561d2909c6b3c68ac8c91e3ca6e1f7d8157648c31dce5a7a455119"), looks := true }, kinds := [], alts := [], laidByText := true, laidKinds := [.data, .data, .data, .data, .sentinel, .sentinel, .pinned], laidTests := true, laidLooks := .later }
def ArticleBackUptoCardSaid : Prop := Claim7.holds Tryz.pinned (.plain (OpenSpec.upto articleBackSpec)) articleBackUptoCard

/-- THE SECOND FORM's CARD OF 'treasurylaw04.ArticleOrders'. -/
def articleOrdersUptoCard : Claim7 := { stood := { row := articleOrdersUptoRow, standIns := [], harness := (true, "0b47693d81561d2909c6b3c68ac8c91e3ca6e1f7d8157648c31dce5a7a455119"), looks := true }, kinds := [], alts := [], laidByText := true, laidKinds := [.data, .data, .data, .data, .sentinel, .sentinel, .pinned], laidTests := true, laidLooks := .later }
def ArticleOrdersUptoCardSaid : Prop := Claim7.holds Tryz.pinned (.plain (OpenSpec.upto articleOrdersSpec)) articleOrdersUptoCard

/-- THE SECOND FORM's CARD OF 'treasurylaw04.ArticleFields'. -/
def articleFieldsUptoCard : Claim7 := { stood := { row := articleFieldsUptoRow, standIns := [], harness := (true, "0b47693d81561d2909c6b3c68ac8c91e3ca6e1f7d8157648c31dce5a7a455119"), looks := true }, kinds := [], alts := [], laidByText := true, laidKinds := [.data, .data, .data, .data, .sentinel, .sentinel, .pinned], laidTests := true, laidLooks := .later }
def ArticleFieldsUptoCardSaid : Prop := Claim7.holds Tryz.pinned (.plain (OpenSpec.upto articleFieldsSpec)) articleFieldsUptoCard
end Rows
end Go.Proofs.YtkfjjmfajeianaaGreatDoor
