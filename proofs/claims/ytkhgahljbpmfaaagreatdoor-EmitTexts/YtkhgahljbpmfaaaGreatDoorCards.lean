/-
  DERIVED. GIVEN WITH THE SEED: THE CARDS: each row of YtkhgahljbpmfaaaGreatDoorRows.lean that lists a variable, with what it lists TIED to the program's text (the seventh form; the later family's looks); each row that meets fmt, with fmt's text TOLD by the authors' own Lean function (tested against real Go, not proved from fmt's source: count such statements apart). THE CARD IS WHAT COUNTS. Prove the row's statement (the work); the ties are given (YtkhgahljbpmfaaaGreatDoorTie.lean); close each card by the builder's one call (the guide's Derived/Test/ToyasCard.lean, 'card_holds'). Laid BY PROGRAM, IN A SANDBOX (cutbox-door.mjs). By AI agents, Wed Nov 11 2026. No macro, syntax, notation, axiom, sorry.
-/
import Derived.Test.YtkhgahljbpmfaaaGreatDoorRows
import GoSem.ClaimSeven
namespace Go.Proofs.YtkhgahljbpmfaaaGreatDoor
namespace Rows

/-- THE TIED CARD OF 'isthmuslaw12.SyntaxParses'. -/
def syntaxParsesCard : Claim7 := { stood := { row := syntaxParsesRow, standIns := [], harness := (true, "c2064b250063771a528ee5cc8ba52782f66f64918c25243b12d81c003a29e35f"), looks := true }, kinds := [], alts := [], laidByText := true, laidKinds := [.data, .data, .data, .sentinel, .sentinel, .data, .data, .data, .data], laidTests := true, laidLooks := .later }
def SyntaxParsesCardSaid : Prop := Claim7.holds Tryz.pinned (.plain (OpenSpec.ofChange syntaxParsesSpec)) syntaxParsesCard

/-- THE TIED CARD OF 'isthmuslaw19.EmitPlans'. -/
def emitPlansCard : Claim7 := { stood := { row := emitPlansRow, standIns := [], harness := (true, "c2064b250063771a528ee5cc8ba52782f66f64918c25243b12d81c003a29e35f"), looks := true }, kinds := [], alts := [], laidByText := true, laidKinds := [.data, .data, .data], laidTests := true, laidLooks := .later }
def EmitPlansCardSaid : Prop := Claim7.holds Tryz.pinned (.plain (OpenSpec.ofChange emitPlansSpec)) emitPlansCard

/-- THE TIED CARD OF 'isthmuslaw19.EmitTexts'. -/
def emitTextsCard : Claim7 := { stood := { row := emitTextsRow, standIns := [], harness := (true, "c2064b250063771a528ee5cc8ba52782f66f64918c25243b12d81c003a29e35f"), looks := true }, kinds := [], alts := [], laidByText := true, laidKinds := [.data, .data, .data], laidTests := true, laidLooks := .later }
def EmitTextsCardSaid : Prop := Claim7.holds Tryz.pinned (.plain (OpenSpec.ofChange emitTextsSpec)) emitTextsCard

/-- THE TIED CARD OF 'isthmuslaw19.EmitFits'. -/
def emitFitsCard : Claim7 := { stood := { row := emitFitsRow, standIns := [], harness := (true, "c2064b250063771a528ee5cc8ba52782f66f64918c25243b12d81c003a29e35f"), looks := true }, kinds := [], alts := [], laidByText := true, laidKinds := [.data, .data, .data, .data], laidTests := true, laidLooks := .later }
def EmitFitsCardSaid : Prop := Claim7.holds Tryz.pinned (.plain (OpenSpec.ofChange emitFitsSpec)) emitFitsCard

/-- THE SECOND FORM's CARD OF 'isthmuslaw12.SyntaxParses'. -/
def syntaxParsesUptoCard : Claim7 := { stood := { row := syntaxParsesUptoRow, standIns := [], harness := (true, "c2064b250063771a528ee5cc8ba52782f66f64918c25243b12d81c003a29e35f"), looks := true }, kinds := [], alts := [], laidByText := true, laidKinds := [.data, .data, .data, .sentinel, .sentinel, .data, .data, .data, .data], laidTests := true, laidLooks := .later }
def SyntaxParsesUptoCardSaid : Prop := Claim7.holds Tryz.pinned (.plain (OpenSpec.upto syntaxParsesSpec)) syntaxParsesUptoCard

/-- THE SECOND FORM's CARD OF 'isthmuslaw19.EmitPlans'. -/
def emitPlansUptoCard : Claim7 := { stood := { row := emitPlansUptoRow, standIns := [], harness := (true, "c2064b250063771a528ee5cc8ba52782f66f64918c25243b12d81c003a29e35f"), looks := true }, kinds := [], alts := [], laidByText := true, laidKinds := [.data, .data, .data], laidTests := true, laidLooks := .later }
def EmitPlansUptoCardSaid : Prop := Claim7.holds Tryz.pinned (.plain (OpenSpec.upto emitPlansSpec)) emitPlansUptoCard

/-- THE SECOND FORM's CARD OF 'isthmuslaw19.EmitTexts'. -/
def emitTextsUptoCard : Claim7 := { stood := { row := emitTextsUptoRow, standIns := [], harness := (true, "c2064b250063771a528ee5cc8ba52782f66f64918c25243b12d81c003a29e35f"), looks := true }, kinds := [], alts := [], laidByText := true, laidKinds := [.data, .data, .data], laidTests := true, laidLooks := .later }
def EmitTextsUptoCardSaid : Prop := Claim7.holds Tryz.pinned (.plain (OpenSpec.upto emitTextsSpec)) emitTextsUptoCard

/-- THE SECOND FORM's CARD OF 'isthmuslaw19.EmitFits'. -/
def emitFitsUptoCard : Claim7 := { stood := { row := emitFitsUptoRow, standIns := [], harness := (true, "c2064b250063771a528ee5cc8ba52782f66f64918c25243b12d81c003a29e35f"), looks := true }, kinds := [], alts := [], laidByText := true, laidKinds := [.data, .data, .data, .data], laidTests := true, laidLooks := .later }
def EmitFitsUptoCardSaid : Prop := Claim7.holds Tryz.pinned (.plain (OpenSpec.upto emitFitsSpec)) emitFitsUptoCard
end Rows
end Go.Proofs.YtkhgahljbpmfaaaGreatDoor
