/-
  DERIVED. GIVEN WITH THE SEED: THE CARDS: each row of YtebgfbcojhmdlaaDoorRows.lean that lists a variable, with what it lists TIED to the program's text (the seventh form; the later family's looks); each row that meets fmt, with fmt's text TOLD by the authors' own Lean function (tested against real Go, not proved from fmt's source: count such statements apart). THE CARD IS WHAT COUNTS. Prove the row's statement (the work); the ties are given (YtebgfbcojhmdlaaDoorTie.lean); close each card by the builder's one call (the guide's Derived/Test/ToyasCard.lean, 'card_holds'). Laid BY PROGRAM, IN A SANDBOX (cutbox-door.mjs). By AI agents, Wed Nov 11 2026. No macro, syntax, notation, axiom, sorry.
-/
import Derived.Test.YtebgfbcojhmdlaaDoorRows
import GoSem.ClaimSeven
namespace Go.Proofs.YtebgfbcojhmdlaaDoor
namespace Rows

/-- THE TIED CARD OF 'treasurylaw28.TaxesMore'. -/
def taxesMoreCard : Claim7 := { stood := { row := taxesMoreRow, standIns := [], harness := (true, "4287678d6c9050cb37efc3beebfeafca6fb67b8b0ed0c4772e3ef785f008420d"), looks := true }, kinds := [], alts := [], laidByText := true, laidKinds := [.data, .data, .data, .data, .sentinel, .sentinel, .pinned], laidTests := true, laidLooks := .later }
def TaxesMoreCardSaid : Prop := Claim7.holds Tryd.pinned (.plain (OpenSpec.ofChange taxesMoreSpec)) taxesMoreCard

/-- THE TIED CARD OF 'treasurylaw28.TaxesDays'. -/
def taxesDaysCard : Claim7 := { stood := { row := taxesDaysRow, standIns := [], harness := (true, "4287678d6c9050cb37efc3beebfeafca6fb67b8b0ed0c4772e3ef785f008420d"), looks := true }, kinds := [], alts := [], laidByText := true, laidKinds := [.data, .data, .data, .data, .sentinel, .sentinel, .pinned], laidTests := true, laidLooks := .later }
def TaxesDaysCardSaid : Prop := Claim7.holds Tryd.pinned (.plain (OpenSpec.ofChange taxesDaysSpec)) taxesDaysCard

/-- THE SECOND FORM's CARD OF 'treasurylaw28.TaxesMore'. -/
def taxesMoreUptoCard : Claim7 := { stood := { row := taxesMoreUptoRow, standIns := [], harness := (true, "4287678d6c9050cb37efc3beebfeafca6fb67b8b0ed0c4772e3ef785f008420d"), looks := true }, kinds := [], alts := [], laidByText := true, laidKinds := [.data, .data, .data, .data, .sentinel, .sentinel, .pinned], laidTests := true, laidLooks := .later }
def TaxesMoreUptoCardSaid : Prop := Claim7.holds Tryd.pinned (.plain (OpenSpec.upto taxesMoreSpec)) taxesMoreUptoCard

/-- THE SECOND FORM's CARD OF 'treasurylaw28.TaxesDays'. -/
def taxesDaysUptoCard : Claim7 := { stood := { row := taxesDaysUptoRow, standIns := [], harness := (true, "4287678d6c9050cb37efc3beebfeafca6fb67b8b0ed0c4772e3ef785f008420d"), looks := true }, kinds := [], alts := [], laidByText := true, laidKinds := [.data, .data, .data, .data, .sentinel, .sentinel, .pinned], laidTests := true, laidLooks := .later }
def TaxesDaysUptoCardSaid : Prop := Claim7.holds Tryd.pinned (.plain (OpenSpec.upto taxesDaysSpec)) taxesDaysUptoCard
end Rows
end Go.Proofs.YtebgfbcojhmdlaaDoor
