/-
  DERIVED. GIVEN WITH THE SEED: THE CARDS: each row of YtafnlhnenmpfoaaDoorRows.lean that lists a variable, with what it lists TIED to the program's text (the seventh form; the later family's looks); each row that meets fmt, with fmt's text TOLD by the authors' own Lean function (tested against real Go, not proved from fmt's source: count such statements apart). THE CARD IS WHAT COUNTS. Prove the row's statement (the work); the ties are given (YtafnlhnenmpfoaaDoorTie.lean); close each card by the builder's one call (the guide's Derived/Test/ToyasCard.lean, 'card_holds'). Laid BY PROGRAM, IN A SANDBOX (cutbox-door.mjs). By AI agents, Wed Nov 11 2026. No macro, syntax, notation, axiom, sorry.
-/
import Derived.Test.YtafnlhnenmpfoaaDoorRows
import GoSem.ClaimSeven
namespace Go.Proofs.YtafnlhnenmpfoaaDoor
namespace Rows

/-- THE TIED CARD OF 'isthmuslaw12.SyntaxSame'. -/
def syntaxSameCard : Claim7 := { stood := { row := syntaxSameRow, standIns := [], harness := (true, "090bf20e14f54d33cfc72f724fef3c4263ad8d296e6232b0c939172f52bd0af9"), looks := true }, kinds := [], alts := [], laidByText := true, laidKinds := [.data, .data, .data, .sentinel, .sentinel, .data, .data, .data, .data], laidTests := true, laidLooks := .later }
def SyntaxSameCardSaid : Prop := Claim7.holds Tryd.pinned (.plain (OpenSpec.ofChange syntaxSameSpec)) syntaxSameCard

/-- THE TIED CARD OF 'isthmuslaw13.TypePlaces'. -/
def typePlacesCard : Claim7 := { stood := { row := typePlacesRow, standIns := [], harness := (true, "090bf20e14f54d33cfc72f724fef3c4263ad8d296e6232b0c939172f52bd0af9"), looks := true }, kinds := [], alts := [], laidByText := true, laidKinds := [.data, .data, .data, .data, .data, .data, .data], laidTests := true, laidLooks := .later }
def TypePlacesCardSaid : Prop := Claim7.holds Tryd.pinned (.plain (OpenSpec.ofChange typePlacesSpec)) typePlacesCard

/-- THE SECOND FORM's CARD OF 'isthmuslaw12.SyntaxSame'. -/
def syntaxSameUptoCard : Claim7 := { stood := { row := syntaxSameUptoRow, standIns := [], harness := (true, "090bf20e14f54d33cfc72f724fef3c4263ad8d296e6232b0c939172f52bd0af9"), looks := true }, kinds := [], alts := [], laidByText := true, laidKinds := [.data, .data, .data, .sentinel, .sentinel, .data, .data, .data, .data], laidTests := true, laidLooks := .later }
def SyntaxSameUptoCardSaid : Prop := Claim7.holds Tryd.pinned (.plain (OpenSpec.upto syntaxSameSpec)) syntaxSameUptoCard

/-- THE SECOND FORM's CARD OF 'isthmuslaw13.TypePlaces'. -/
def typePlacesUptoCard : Claim7 := { stood := { row := typePlacesUptoRow, standIns := [], harness := (true, "090bf20e14f54d33cfc72f724fef3c4263ad8d296e6232b0c939172f52bd0af9"), looks := true }, kinds := [], alts := [], laidByText := true, laidKinds := [.data, .data, .data, .data, .data, .data, .data], laidTests := true, laidLooks := .later }
def TypePlacesUptoCardSaid : Prop := Claim7.holds Tryd.pinned (.plain (OpenSpec.upto typePlacesSpec)) typePlacesUptoCard
end Rows
end Go.Proofs.YtafnlhnenmpfoaaDoor
