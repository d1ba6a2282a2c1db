/-
  DERIVED. GIVEN WITH THE SEED: THE CARDS: each row of YtnfmpocfakblmaaGreatDoorRows.lean that lists a variable, with what it lists TIED to the program's text (the seventh form; the later family's looks); each row that meets fmt, with fmt's text TOLD by the authors' own Lean function (tested against real Go, not proved from fmt's source: count such statements apart). THE CARD IS WHAT COUNTS. Prove the row's statement (the work); the ties are given (YtnfmpocfakblmaaGreatDoorTie.lean); close each card by the builder's one call (the guide's Derived/Test/ToyasCard.lean, 'card_holds'). Laid BY PROGRAM, IN A SANDBOX (cutbox-door.mjs). By AI agents, Wed Nov 11 2026. No macro, syntax, notation, axiom, sorry.
-/
import Derived.Test.YtnfmpocfakblmaaGreatDoorRows
import GoSem.ClaimSeven
namespace Go.Proofs.YtnfmpocfakblmaaGreatDoor
namespace Rows

/-- THE TIED CARD OF 'isthmuslaw12.SyntaxParses'. -/
def syntaxParsesCard : Claim7 := { stood := { row := syntaxParsesRow, standIns := [], harness := (true, "ededf7063233d4c25c4950ad8adb62897b14f98af6209550f6c1c5d86750a71c"), looks := true }, kinds := [], alts := [], laidByText := true, laidKinds := [.data, .data, .data, .sentinel, .sentinel, .data, .data, .data, .data], laidTests := true, laidLooks := .later }
def SyntaxParsesCardSaid : Prop := Claim7.holds Tryz.pinned (.plain (OpenSpec.ofChange syntaxParsesSpec)) syntaxParsesCard

/-- THE TIED CARD OF 'isthmuslaw19.EmitPlans'. -/
def emitPlansCard : Claim7 := { stood := { row := emitPlansRow, standIns := [], harness := (true, "ededf7063233d4c25c4950ad8adb62897b14f98af6209550f6c1c5d86750a71c"), looks := true }, kinds := [], alts := [], laidByText := true, laidKinds := [.data, .data, .data], laidTests := true, laidLooks := .later }
def EmitPlansCardSaid : Prop := Claim7.holds Tryz.pinned (.plain (OpenSpec.ofChange emitPlansSpec)) emitPlansCard

/-- THE TIED CARD OF 'isthmuslaw19.EmitTexts'. -/
def emitTextsCard : Claim7 := { stood := { row := emitTextsRow, standIns := [], harness := (true, "ededf7063233d4c25c4950ad8adb62897b14f98af6209550f6c1c5d86750a71c"), looks := true }, kinds := [], alts := [], laidByText := true, laidKinds := [.data, .data, .data], laidTests := true, laidLooks := .later }
def EmitTextsCardSaid : Prop := Claim7.holds Tryz.pinned (.plain (OpenSpec.ofChange emitTextsSpec)) emitTextsCard

/-- THE TIED CARD OF 'isthmuslaw19.EmitFits'. -/
def emitFitsCard : Claim7 := { stood := { row := emitFitsRow, standIns := [], harness := (true, "ededf7063233d4c25c4950ad8adb62897b14f98af6209550f6c1c5d86750a71c"), looks := true }, kinds := [], alts := [], laidByText := true, laidKinds := [.data, .data, .data, .data], laidTests := true, laidLooks := .later }
def EmitFitsCardSaid : Prop := Claim7.holds Tryz.pinned (.plain (OpenSpec.ofChange emitFitsSpec)) emitFitsCard

/-- THE TIED CARD OF 'isthmuslaw19.EmitLists'. -/
def emitListsCard : Claim7 := { stood := { row := emitListsRow, standIns := [], harness := (true, "ededf7063233d4c25c4950ad8adb62897b14f98af6209550f6c1c5d86750a71c"), looks := true }, kinds := [], alts := [], laidByText := true, laidKinds := [.data, .data, .data], laidTests := true, laidLooks := .later }
def EmitListsCardSaid : Prop := Claim7.holds Tryz.pinned (.plain (OpenSpec.ofChange emitListsSpec)) emitListsCard

/-- THE TIED CARD OF 'isthmuslaw19.EmitJoins'. -/
def emitJoinsCard : Claim7 := { stood := { row := emitJoinsRow, standIns := [], harness := (true, "ededf7063233d4c25c4950ad8adb62897b14f98af6209550f6c1c5d86750a71c"), looks := true }, kinds := [], alts := [], laidByText := true, laidKinds := [.data, .data, .data], laidTests := true, laidLooks := .later }
def EmitJoinsCardSaid : Prop := Claim7.holds Tryz.pinned (.plain (OpenSpec.ofChange emitJoinsSpec)) emitJoinsCard

/-- THE SECOND FORM's CARD OF 'isthmuslaw12.SyntaxParses'. -/
def syntaxParsesUptoCard : Claim7 := { stood := { row := syntaxParsesUptoRow, standIns := [], harness := (true, "ededf7063233d4c25c4950ad8adb62897b14f98af6209550f6c1c5d86750a71c"), looks := true }, kinds := [], alts := [], laidByText := true, laidKinds := [.data, .data, .data, .sentinel, .sentinel, .data, .data, .data, .data], laidTests := true, laidLooks := .later }
def SyntaxParsesUptoCardSaid : Prop := Claim7.holds Tryz.pinned (.plain (OpenSpec.upto syntaxParsesSpec)) syntaxParsesUptoCard

/-- THE SECOND FORM's CARD OF 'isthmuslaw19.EmitPlans'. -/
def emitPlansUptoCard : Claim7 := { stood := { row := emitPlansUptoRow, standIns := [], harness := (true, "ededf7063233d4c25c4950ad8adb62897b14f98af6209550f6c1c5d86750a71c"), looks := true }, kinds := [], alts := [], laidByText := true, laidKinds := [.data, .data, .data], laidTests := true, laidLooks := .later }
def EmitPlansUptoCardSaid : Prop := Claim7.holds Tryz.pinned (.plain (OpenSpec.upto emitPlansSpec)) emitPlansUptoCard

/-- THE SECOND FORM's CARD OF 'isthmuslaw19.EmitTexts'. -/
def emitTextsUptoCard : Claim7 := { stood := { row := emitTextsUptoRow, standIns := [], harness := (true, "ededf7063233d4c25c4950ad8adb62897b14f98af6209550f6c1c5d86750a71c"), looks := true }, kinds := [], alts := [], laidByText := true, laidKinds := [.data, .data, .data], laidTests := true, laidLooks := .later }
def EmitTextsUptoCardSaid : Prop := Claim7.holds Tryz.pinned (.plain (OpenSpec.upto emitTextsSpec)) emitTextsUptoCard

/-- THE SECOND FORM's CARD OF 'isthmuslaw19.EmitFits'. -/
def emitFitsUptoCard : Claim7 := { stood := { row := emitFitsUptoRow, standIns := [], harness := (true, "ededf7063233d4c25c4950ad8adb62897b14f98af6209550f6c1c5d86750a71c"), looks := true }, kinds := [], alts := [], laidByText := true, laidKinds := [.data, .data, .data, .data], laidTests := true, laidLooks := .later }
def EmitFitsUptoCardSaid : Prop := Claim7.holds Tryz.pinned (.plain (OpenSpec.upto emitFitsSpec)) emitFitsUptoCard

/-- THE SECOND FORM's CARD OF 'isthmuslaw19.EmitLists'. -/
def emitListsUptoCard : Claim7 := { stood := { row := emitListsUptoRow, standIns := [], harness := (true, "ededf7063233d4c25c4950ad8adb62897b14f98af6209550f6c1c5d86750a71c"), looks := true }, kinds := [], alts := [], laidByText := true, laidKinds := [.data, .data, .data], laidTests := true, laidLooks := .later }
def EmitListsUptoCardSaid : Prop := Claim7.holds Tryz.pinned (.plain (OpenSpec.upto emitListsSpec)) emitListsUptoCard

/-- THE SECOND FORM's CARD OF 'isthmuslaw19.EmitJoins'. -/
def emitJoinsUptoCard : Claim7 := { stood := { row := emitJoinsUptoRow, standIns := [], harness := (true, "ededf7063233d4c25c4950ad8adb62897b14f98af6209550f6c1c5d86750a71c"), looks := true }, kinds := [], alts := [], laidByText := true, laidKinds := [.data, .data, .data], laidTests := true, laidLooks := .later }
def EmitJoinsUptoCardSaid : Prop := Claim7.holds Tryz.pinned (.plain (OpenSpec.upto emitJoinsSpec)) emitJoinsUptoCard
end Rows
end Go.Proofs.YtnfmpocfakblmaaGreatDoor
