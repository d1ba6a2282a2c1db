/-
  DERIVED. GIVEN WITH THE SEED: THE CARDS: each row of YtafnlhnenmpfoaaGreatDoorRows.lean that lists a variable, with what it lists TIED to the program's text (the seventh form; the later family's looks); each row that meets fmt, with fmt's text TOLD by the authors' own Lean function (tested against real Go, not proved from fmt's source: count such statements apart). THE CARD IS WHAT COUNTS. Prove the row's statement (the work); the ties are given (YtafnlhnenmpfoaaGreatDoorTie.lean); close each card by the builder's one call (the guide's Derived/Test/ToyasCard.lean, 'card_holds'). Laid BY PROGRAM, IN A SANDBOX (cutbox-door.mjs). By AI agents, Wed Nov 11 2026. No macro, syntax, notation, axiom, sorry.
-/
import Derived.Test.YtafnlhnenmpfoaaGreatDoorRows
import GoSem.ClaimSeven
namespace Go.Proofs.YtafnlhnenmpfoaaGreatDoor
namespace Rows

/-- THE TIED CARD OF 'isthmuslaw12.SyntaxParses'. -/
def syntaxParsesCard : Claim7 := { stood := { row := syntaxParsesRow, standIns := [], harness := (true, "f49f8774505775c9205decbeaad7ceadb0df5c9fd72956a4c98a90b874e41bff"), looks := true }, kinds := [], alts := [], laidByText := true, laidKinds := [.data, .data, .data, .sentinel, .sentinel, .data, .data, .data, .data], laidTests := true, laidLooks := .later }
def SyntaxParsesCardSaid : Prop := Claim7.holds Tryz.pinned (.plain (OpenSpec.ofChange syntaxParsesSpec)) syntaxParsesCard

/-- THE TIED CARD OF 'isthmuslaw13.TypeChecks'. -/
def typeChecksCard : Claim7 := { stood := { row := typeChecksRow, standIns := [], harness := (true, "f49f8774505775c9205decbeaad7ceadb0df5c9fd72956a4c98a90b874e41bff"), looks := true }, kinds := [], alts := [], laidByText := true, laidKinds := [.data, .data, .data, .data, .data, .data, .data], laidTests := true, laidLooks := .later }
def TypeChecksCardSaid : Prop := Claim7.holds Tryz.pinned (.plain (OpenSpec.ofChange typeChecksSpec)) typeChecksCard

/-- THE TIED CARD OF 'isthmuslaw13.TypeTexts'. -/
def typeTextsCard : Claim7 := { stood := { row := typeTextsRow, standIns := [], harness := (true, "f49f8774505775c9205decbeaad7ceadb0df5c9fd72956a4c98a90b874e41bff"), looks := true }, kinds := [], alts := [], laidByText := true, laidKinds := [.data, .data, .data, .data, .data, .data, .data], laidTests := true, laidLooks := .later }
def TypeTextsCardSaid : Prop := Claim7.holds Tryz.pinned (.plain (OpenSpec.ofChange typeTextsSpec)) typeTextsCard

/-- THE TIED CARD OF 'isthmuslaw13.TypeSwaps'. -/
def typeSwapsCard : Claim7 := { stood := { row := typeSwapsRow, standIns := [], harness := (true, "f49f8774505775c9205decbeaad7ceadb0df5c9fd72956a4c98a90b874e41bff"), looks := true }, kinds := [], alts := [], laidByText := true, laidKinds := [.data, .data, .data, .data, .data, .data, .data], laidTests := true, laidLooks := .later }
def TypeSwapsCardSaid : Prop := Claim7.holds Tryz.pinned (.plain (OpenSpec.ofChange typeSwapsSpec)) typeSwapsCard

/-- THE SECOND FORM's CARD OF 'isthmuslaw12.SyntaxParses'. -/
def syntaxParsesUptoCard : Claim7 := { stood := { row := syntaxParsesUptoRow, standIns := [], harness := (true, "f49f8774505775c9205decbeaad7ceadb0df5c9fd72956a4c98a90b874e41bff"), looks := true }, kinds := [], alts := [], laidByText := true, laidKinds := [.data, .data, .data, .sentinel, .sentinel, .data, .data, .data, .data], laidTests := true, laidLooks := .later }
def SyntaxParsesUptoCardSaid : Prop := Claim7.holds Tryz.pinned (.plain (OpenSpec.upto syntaxParsesSpec)) syntaxParsesUptoCard

/-- THE SECOND FORM's CARD OF 'isthmuslaw13.TypeChecks'. -/
def typeChecksUptoCard : Claim7 := { stood := { row := typeChecksUptoRow, standIns := [], harness := (true, "f49f8774505775c9205decbeaad7ceadb0df5c9fd72956a4c98a90b874e41bff"), looks := true }, kinds := [], alts := [], laidByText := true, laidKinds := [.data, .data, .data, .data, .data, .data, .data], laidTests := true, laidLooks := .later }
def TypeChecksUptoCardSaid : Prop := Claim7.holds Tryz.pinned (.plain (OpenSpec.upto typeChecksSpec)) typeChecksUptoCard

/-- THE SECOND FORM's CARD OF 'isthmuslaw13.TypeTexts'. -/
def typeTextsUptoCard : Claim7 := { stood := { row := typeTextsUptoRow, standIns := [], harness := (true, "f49f8774505775c9205decbeaad7ceadb0df5c9fd72956a4c98a90b874e41bff"), looks := true }, kinds := [], alts := [], laidByText := true, laidKinds := [.data, .data, .data, .data, .data, .data, .data], laidTests := true, laidLooks := .later }
def TypeTextsUptoCardSaid : Prop := Claim7.holds Tryz.pinned (.plain (OpenSpec.upto typeTextsSpec)) typeTextsUptoCard

/-- THE SECOND FORM's CARD OF 'isthmuslaw13.TypeSwaps'. -/
def typeSwapsUptoCard : Claim7 := { stood := { row := typeSwapsUptoRow, standIns := [], harness := (true, "f49f8774505775c9205decbeaad7ceadb0df5c9fd72956a4c98a90b874e41bff"), looks := true }, kinds := [], alts := [], laidByText := true, laidKinds := [.data, .data, .data, .data, .data, .data, .data], laidTests := true, laidLooks := .later }
def TypeSwapsUptoCardSaid : Prop := Claim7.holds Tryz.pinned (.plain (OpenSpec.upto typeSwapsSpec)) typeSwapsUptoCard
end Rows
end Go.Proofs.YtafnlhnenmpfoaaGreatDoor
