/-
  DERIVED. GIVEN WITH THE SEED: THE CARDS: each row of YtojleoionpnjpaaGreatDoorRows.lean that lists a variable, with what it lists TIED to the program's text (the seventh form; the later family's looks); each row that meets fmt, with fmt's text TOLD by the authors' own Lean function (tested against real Go, not proved from fmt's source: count such statements apart). THE CARD IS WHAT COUNTS. Prove the row's statement (the work); the ties are given (YtojleoionpnjpaaGreatDoorTie.lean); close each card by the builder's one call (the guide's Derived/Test/ToyasCard.lean, 'card_holds'). Laid BY PROGRAM, IN A SANDBOX (cutbox-door.mjs). By AI agents, Wed Nov 11 2026. No macro, syntax, notation, axiom, sorry.
-/
import Derived.Test.YtojleoionpnjpaaGreatDoorRows
import GoSem.ClaimSeven
namespace Go.Proofs.YtojleoionpnjpaaGreatDoor
namespace Rows

/-- THE TIED CARD OF 'isthmuslaw12.SyntaxParses'. -/
def syntaxParsesCard : Claim7 := { stood := { row := syntaxParsesRow, standIns := [], harness := (true, "c51b43e87e2425a2b857797e31b4864e9ac51b73ccad06d0198bbe6ef577564d"), looks := true }, kinds := [], alts := [], laidByText := true, laidKinds := [.data, .data, .data, .sentinel, .sentinel, .data, .data, .data, .data], laidTests := true, laidLooks := .later }
def SyntaxParsesCardSaid : Prop := Claim7.holds Tryz.pinned (.plain (OpenSpec.ofChange syntaxParsesSpec)) syntaxParsesCard

/-- THE TIED CARD OF 'isthmuslaw13.TypeQuants'. -/
def typeQuantsCard : Claim7 := { stood := { row := typeQuantsRow, standIns := [], harness := (true, "c51b43e87e2425a2b857797e31b4864e9ac51b73ccad06d0198bbe6ef577564d"), looks := true }, kinds := [], alts := [], laidByText := true, laidKinds := [.data, .data, .data, .data, .data, .data, .data], laidTests := true, laidLooks := .later }
def TypeQuantsCardSaid : Prop := Claim7.holds Tryz.pinned (.plain (OpenSpec.ofChange typeQuantsSpec)) typeQuantsCard

/-- THE SECOND FORM's CARD OF 'isthmuslaw12.SyntaxParses'. -/
def syntaxParsesUptoCard : Claim7 := { stood := { row := syntaxParsesUptoRow, standIns := [], harness := (true, "c51b43e87e2425a2b857797e31b4864e9ac51b73ccad06d0198bbe6ef577564d"), looks := true }, kinds := [], alts := [], laidByText := true, laidKinds := [.data, .data, .data, .sentinel, .sentinel, .data, .data, .data, .data], laidTests := true, laidLooks := .later }
def SyntaxParsesUptoCardSaid : Prop := Claim7.holds Tryz.pinned (.plain (OpenSpec.upto syntaxParsesSpec)) syntaxParsesUptoCard

/-- THE SECOND FORM's CARD OF 'isthmuslaw13.TypeQuants'. -/
def typeQuantsUptoCard : Claim7 := { stood := { row := typeQuantsUptoRow, standIns := [], harness := (true, "c51b43e87e2425a2b857797e31b4864e9ac51b73ccad06d0198bbe6ef577564d"), looks := true }, kinds := [], alts := [], laidByText := true, laidKinds := [.data, .data, .data, .data, .data, .data, .data], laidTests := true, laidLooks := .later }
def TypeQuantsUptoCardSaid : Prop := Claim7.holds Tryz.pinned (.plain (OpenSpec.upto typeQuantsSpec)) typeQuantsUptoCard
end Rows
end Go.Proofs.YtojleoionpnjpaaGreatDoor
