/-
  DERIVED. GIVEN WITH THE SEED: THE CARDS: each row of YtbjdkekhnajafaaGreatDoorRows.lean that lists a variable, with what it lists TIED to the program's text (the seventh form; the later family's looks); each row that meets fmt, with fmt's text TOLD by the authors' own Lean function (tested against real Go, not proved from fmt's source: count such statements apart). THE CARD IS WHAT COUNTS. Prove the row's statement (the work); the ties are given (YtbjdkekhnajafaaGreatDoorTie.lean); close each card by the builder's one call (the guide's Derived/Test/ToyasCard.lean, 'card_holds'). Laid BY PROGRAM, IN A SANDBOX (cutbox-door.mjs). By AI agents, Wed Nov 11 2026. No macro, syntax, notation, axiom, sorry.
-/
import Derived.Test.YtbjdkekhnajafaaGreatDoorRows
import GoSem.ClaimSeven
namespace Go.Proofs.YtbjdkekhnajafaaGreatDoor
namespace Rows

/-- THE TIED CARD OF 'isthmuslaw12.SyntaxParses'. -/
def syntaxParsesCard : Claim7 := { stood := { row := syntaxParsesRow, standIns := [], harness := (true, "09d8674ead5aa798d0ff622afa6f295d4b636d25719ee6a66c55010a897b2cfa"), looks := true }, kinds := [], alts := [], laidByText := true, laidKinds := [.data, .data, .data, .sentinel, .sentinel, .data, .data, .data, .data], laidTests := true, laidLooks := .later }
def SyntaxParsesCardSaid : Prop := Claim7.holds Tryz.pinned (.plain (OpenSpec.ofChange syntaxParsesSpec)) syntaxParsesCard

/-- THE TIED CARD OF 'isthmuslaw19.EmitPlans'. -/
def emitPlansCard : Claim7 := { stood := { row := emitPlansRow, standIns := [], harness := (true, "09d8674ead5aa798d0ff622afa6f295d4b636d25719ee6a66c55010a897b2cfa"), looks := true }, kinds := [], alts := [], laidByText := true, laidKinds := [.data, .data, .data], laidTests := true, laidLooks := .later }
def EmitPlansCardSaid : Prop := Claim7.holds Tryz.pinned (.plain (OpenSpec.ofChange emitPlansSpec)) emitPlansCard

/-- THE TIED CARD OF 'isthmuslaw19.EmitTexts'. -/
def emitTextsCard : Claim7 := { stood := { row := emitTextsRow, standIns := [], harness := (true, "09d8674ead5aa798d0ff622afa6f295d4b636d25719ee6a66c55010a897b2cfa"), looks := true }, kinds := [], alts := [], laidByText := true, laidKinds := [.data, .data, .data], laidTests := true, laidLooks := .later }
def EmitTextsCardSaid : Prop := Claim7.holds Tryz.pinned (.plain (OpenSpec.ofChange emitTextsSpec)) emitTextsCard

/-- THE TIED CARD OF 'isthmuslaw19.EmitFits'. -/
def emitFitsCard : Claim7 := { stood := { row := emitFitsRow, standIns := [], harness := (true, "09d8674ead5aa798d0ff622afa6f295d4b636d25719ee6a66c55010a897b2cfa"), looks := true }, kinds := [], alts := [], laidByText := true, laidKinds := [.data, .data, .data, .data], laidTests := true, laidLooks := .later }
def EmitFitsCardSaid : Prop := Claim7.holds Tryz.pinned (.plain (OpenSpec.ofChange emitFitsSpec)) emitFitsCard

/-- THE TIED CARD OF 'isthmuslaw19.EmitJoins'. -/
def emitJoinsCard : Claim7 := { stood := { row := emitJoinsRow, standIns := [], harness := (true, "09d8674ead5aa798d0ff622afa6f295d4b636d25719ee6a66c55010a897b2cfa"), looks := true }, kinds := [], alts := [], laidByText := true, laidKinds := [.data, .data, .data], laidTests := true, laidLooks := .later }
def EmitJoinsCardSaid : Prop := Claim7.holds Tryz.pinned (.plain (OpenSpec.ofChange emitJoinsSpec)) emitJoinsCard

/-- THE TIED CARD OF 'isthmuslaw20.GuardSpoilt'. -/
def guardSpoiltCard : Claim7 := { stood := { row := guardSpoiltRow, standIns := [], harness := (true, "09d8674ead5aa798d0ff622afa6f295d4b636d25719ee6a66c55010a897b2cfa"), looks := true }, kinds := [], alts := [], laidByText := true, laidKinds := [.data, .data, .data, .data], laidTests := true, laidLooks := .later }
def GuardSpoiltCardSaid : Prop := Claim7.holds Tryz.pinned (.plain (OpenSpec.ofChange guardSpoiltSpec)) guardSpoiltCard

/-- THE SECOND FORM's CARD OF 'isthmuslaw12.SyntaxParses'. -/
def syntaxParsesUptoCard : Claim7 := { stood := { row := syntaxParsesUptoRow, standIns := [], harness := (true, "09d8674ead5aa798d0ff622afa6f295d4b636d25719ee6a66c55010a897b2cfa"), looks := true }, kinds := [], alts := [], laidByText := true, laidKinds := [.data, .data, .data, .sentinel, .sentinel, .data, .data, .data, .data], laidTests := true, laidLooks := .later }
def SyntaxParsesUptoCardSaid : Prop := Claim7.holds Tryz.pinned (.plain (OpenSpec.upto syntaxParsesSpec)) syntaxParsesUptoCard

/-- THE SECOND FORM's CARD OF 'isthmuslaw19.EmitPlans'. -/
def emitPlansUptoCard : Claim7 := { stood := { row := emitPlansUptoRow, standIns := [], harness := (true, "09d8674ead5aa798d0ff622afa6f295d4b636d25719ee6a66c55010a897b2cfa"), looks := true }, kinds := [], alts := [], laidByText := true, laidKinds := [.data, .data, .data], laidTests := true, laidLooks := .later }
def EmitPlansUptoCardSaid : Prop := Claim7.holds Tryz.pinned (.plain (OpenSpec.upto emitPlansSpec)) emitPlansUptoCard

/-- THE SECOND FORM's CARD OF 'isthmuslaw19.EmitTexts'. -/
def emitTextsUptoCard : Claim7 := { stood := { row := emitTextsUptoRow, standIns := [], harness := (true, "09d8674ead5aa798d0ff622afa6f295d4b636d25719ee6a66c55010a897b2cfa"), looks := true }, kinds := [], alts := [], laidByText := true, laidKinds := [.data, .data, .data], laidTests := true, laidLooks := .later }
def EmitTextsUptoCardSaid : Prop := Claim7.holds Tryz.pinned (.plain (OpenSpec.upto emitTextsSpec)) emitTextsUptoCard

/-- THE SECOND FORM's CARD OF 'isthmuslaw19.EmitFits'. -/
def emitFitsUptoCard : Claim7 := { stood := { row := emitFitsUptoRow, standIns := [], harness := (true, "09d8674ead5aa798d0ff622afa6f295d4b636d25719ee6a66c55010a897b2cfa"), looks := true }, kinds := [], alts := [], laidByText := true, laidKinds := [.data, .data, .data, .data], laidTests := true, laidLooks := .later }
def EmitFitsUptoCardSaid : Prop := Claim7.holds Tryz.pinned (.plain (OpenSpec.upto emitFitsSpec)) emitFitsUptoCard

/-- THE SECOND FORM's CARD OF 'isthmuslaw19.EmitJoins'. -/
def emitJoinsUptoCard : Claim7 := { stood := { row := emitJoinsUptoRow, standIns := [], harness := (true, "09d8674ead5aa798d0ff622afa6f295d4b636d25719ee6a66c55010a897b2cfa"), looks := true }, kinds := [], alts := [], laidByText := true, laidKinds := [.data, .data, .data], laidTests := true, laidLooks := .later }
def EmitJoinsUptoCardSaid : Prop := Claim7.holds Tryz.pinned (.plain (OpenSpec.upto emitJoinsSpec)) emitJoinsUptoCard

/-- THE SECOND FORM's CARD OF 'isthmuslaw20.GuardSpoilt'. -/
def guardSpoiltUptoCard : Claim7 := { stood := { row := guardSpoiltUptoRow, standIns := [], harness := (true, "09d8674ead5aa798d0ff622afa6f295d4b636d25719ee6a66c55010a897b2cfa"), looks := true }, kinds := [], alts := [], laidByText := true, laidKinds := [.data, .data, .data, .data], laidTests := true, laidLooks := .later }
def GuardSpoiltUptoCardSaid : Prop := Claim7.holds Tryz.pinned (.plain (OpenSpec.upto guardSpoiltSpec)) guardSpoiltUptoCard
end Rows
end Go.Proofs.YtbjdkekhnajafaaGreatDoor
