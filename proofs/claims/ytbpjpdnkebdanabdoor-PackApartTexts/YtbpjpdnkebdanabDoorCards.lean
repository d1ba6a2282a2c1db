/-
  DERIVED. GIVEN WITH THE SEED: THE CARDS: each row of YtbpjpdnkebdanabDoorRows.lean that lists a variable, with what it lists TIED to the program's text (the seventh form; the later family's looks); each row that meets fmt, with fmt's text TOLD by the authors' own Lean function (tested against real Go, not proved from fmt's source: count such statements apart). THE CARD IS WHAT COUNTS. Prove the row's statement (the work); the ties are given (YtbpjpdnkebdanabDoorTie.lean); close each card by the builder's one call (the guide's Derived/Test/ToyasCard.lean, 'card_holds'). Laid BY PROGRAM, IN A SANDBOX (cutbox-door.mjs). By AI agents, Wed Nov 11 2026. No macro, syntax, notation, axiom, sorry.
-/
import Derived.Test.YtbpjpdnkebdanabDoorRows
import GoSem.ClaimSeven
namespace Go.Proofs.YtbpjpdnkebdanabDoor
namespace Rows

/-- THE TIED CARD OF 'isthmuslaw01.PackApart'. -/
def packApartCard : Claim7 := { stood := { row := packApartRow, standIns := [], harness := (true, "5f75bc5144b23339c905924fd4313c43380bc7a59c9d3f6e32ec946ab81a0c69"), looks := false }, kinds := [], alts := [], laidByText := true, laidKinds := [.data], laidTests := true, laidLooks := .later }
def PackApartCardSaid : Prop := Claim7.holds Tryd.pinned (.plain (OpenSpec.ofChange packApartSpec)) packApartCard

/-- THE TIED CARD OF 'isthmuslaw01.PackLengths'. -/
def packLengthsCard : Claim7 := { stood := { row := packLengthsRow, standIns := [], harness := (true, "5f75bc5144b23339c905924fd4313c43380bc7a59c9d3f6e32ec946ab81a0c69"), looks := false }, kinds := [], alts := [], laidByText := true, laidKinds := [.data], laidTests := true, laidLooks := .later }
def PackLengthsCardSaid : Prop := Claim7.holds Tryd.pinned (.plain (OpenSpec.ofChange packLengthsSpec)) packLengthsCard

/-- THE TIED CARD OF 'isthmuslaw01.PackApartTexts'. -/
def packApartTextsCard : Claim7 := { stood := { row := packApartTextsRow, standIns := [], harness := (true, "5f75bc5144b23339c905924fd4313c43380bc7a59c9d3f6e32ec946ab81a0c69"), looks := false }, kinds := [], alts := [], laidByText := true, laidKinds := [.data], laidTests := true, laidLooks := .later }
def PackApartTextsCardSaid : Prop := Claim7.holds Tryd.pinned (.plain (OpenSpec.ofChange packApartTextsSpec)) packApartTextsCard

/-- THE SECOND FORM's CARD OF 'isthmuslaw01.PackApart'. -/
def packApartUptoCard : Claim7 := { stood := { row := packApartUptoRow, standIns := [], harness := (true, "5f75bc5144b23339c905924fd4313c43380bc7a59c9d3f6e32ec946ab81a0c69"), looks := false }, kinds := [], alts := [], laidByText := true, laidKinds := [.data], laidTests := true, laidLooks := .later }
def PackApartUptoCardSaid : Prop := Claim7.holds Tryd.pinned (.plain (OpenSpec.upto packApartSpec)) packApartUptoCard

/-- THE SECOND FORM's CARD OF 'isthmuslaw01.PackLengths'. -/
def packLengthsUptoCard : Claim7 := { stood := { row := packLengthsUptoRow, standIns := [], harness := (true, "5f75bc5144b23339c905924fd4313c43380bc7a59c9d3f6e32ec946ab81a0c69"), looks := false }, kinds := [], alts := [], laidByText := true, laidKinds := [.data], laidTests := true, laidLooks := .later }
def PackLengthsUptoCardSaid : Prop := Claim7.holds Tryd.pinned (.plain (OpenSpec.upto packLengthsSpec)) packLengthsUptoCard

/-- THE SECOND FORM's CARD OF 'isthmuslaw01.PackApartTexts'. -/
def packApartTextsUptoCard : Claim7 := { stood := { row := packApartTextsUptoRow, standIns := [], harness := (true, "5f75bc5144b23339c905924fd4313c43380bc7a59c9d3f6e32ec946ab81a0c69"), looks := false }, kinds := [], alts := [], laidByText := true, laidKinds := [.data], laidTests := true, laidLooks := .later }
def PackApartTextsUptoCardSaid : Prop := Claim7.holds Tryd.pinned (.plain (OpenSpec.upto packApartTextsSpec)) packApartTextsUptoCard
end Rows
end Go.Proofs.YtbpjpdnkebdanabDoor
