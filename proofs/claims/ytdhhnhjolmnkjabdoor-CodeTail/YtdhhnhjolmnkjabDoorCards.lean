/-
  DERIVED. GIVEN WITH THE SEED: THE CARDS: each row of YtdhhnhjolmnkjabDoorRows.lean that lists a variable, with what it lists TIED to the program's text (the seventh form; the later family's looks); each row that meets fmt, with fmt's text TOLD by the authors' own Lean function (tested against real Go, not proved from fmt's source: count such statements apart). THE CARD IS WHAT COUNTS. Prove the row's statement (the work); the ties are given (YtdhhnhjolmnkjabDoorTie.lean); close each card by the builder's one call (the guide's Derived/Test/ToyasCard.lean, 'card_holds'). Laid BY PROGRAM, IN A SANDBOX (cutbox-door.mjs). By AI agents, Wed Nov 11 2026. No macro, syntax, notation, axiom, sorry.
-/
import Derived.Test.YtdhhnhjolmnkjabDoorRows
import GoSem.ClaimSeven
namespace Go.Proofs.YtdhhnhjolmnkjabDoor
namespace Rows

/-- THE TIED CARD OF 'isthmuslaw18.CodeLists'. -/
def codeListsCard : Claim7 := { stood := { row := codeListsRow, standIns := [], harness := (true, "cd123ad43d2faef19879852096daedfd1b29d71562a5209c5dec0652708aa197"), looks := false }, kinds := [], alts := [], laidByText := true, laidKinds := [.data, .data, .data], laidTests := true, laidLooks := .later }
def CodeListsCardSaid : Prop := Claim7.holds Tryd.pinned (.plain (OpenSpec.ofChange codeListsSpec)) codeListsCard

/-- THE TIED CARD OF 'isthmuslaw18.CodeTail'. -/
def codeTailCard : Claim7 := { stood := { row := codeTailRow, standIns := [], harness := (true, "cd123ad43d2faef19879852096daedfd1b29d71562a5209c5dec0652708aa197"), looks := false }, kinds := [], alts := [], laidByText := true, laidKinds := [.data, .data, .data], laidTests := true, laidLooks := .later }
def CodeTailCardSaid : Prop := Claim7.holds Tryd.pinned (.plain (OpenSpec.ofChange codeTailSpec)) codeTailCard

/-- THE SECOND FORM's CARD OF 'isthmuslaw18.CodeLists'. -/
def codeListsUptoCard : Claim7 := { stood := { row := codeListsUptoRow, standIns := [], harness := (true, "cd123ad43d2faef19879852096daedfd1b29d71562a5209c5dec0652708aa197"), looks := false }, kinds := [], alts := [], laidByText := true, laidKinds := [.data, .data, .data], laidTests := true, laidLooks := .later }
def CodeListsUptoCardSaid : Prop := Claim7.holds Tryd.pinned (.plain (OpenSpec.upto codeListsSpec)) codeListsUptoCard

/-- THE SECOND FORM's CARD OF 'isthmuslaw18.CodeTail'. -/
def codeTailUptoCard : Claim7 := { stood := { row := codeTailUptoRow, standIns := [], harness := (true, "cd123ad43d2faef19879852096daedfd1b29d71562a5209c5dec0652708aa197"), looks := false }, kinds := [], alts := [], laidByText := true, laidKinds := [.data, .data, .data], laidTests := true, laidLooks := .later }
def CodeTailUptoCardSaid : Prop := Claim7.holds Tryd.pinned (.plain (OpenSpec.upto codeTailSpec)) codeTailUptoCard
end Rows
end Go.Proofs.YtdhhnhjolmnkjabDoor
