/-
  DERIVED. GIVEN WITH THE SEED: THE CARDS: each row of YtpdfdhkdfkhfkaaDoorRows.lean that lists a variable, with what it lists TIED to the program's text (the seventh form; the later family's looks); each row that meets fmt, with fmt's text TOLD by the authors' own Lean function (tested against real Go, not proved from fmt's source: count such statements apart). THE CARD IS WHAT COUNTS. Prove the row's statement (the work); the ties are given (YtpdfdhkdfkhfkaaDoorTie.lean); close each card by the builder's one call (the guide's Derived/Test/ToyasCard.lean, 'card_holds'). Laid BY PROGRAM, IN A SANDBOX (cutbox-door.mjs). By AI agents, Wed Nov 11 2026. No macro, syntax, notation, axiom, sorry.
-/
import Derived.Test.YtpdfdhkdfkhfkaaDoorRows
import GoSem.ClaimSeven
namespace Go.Proofs.YtpdfdhkdfkhfkaaDoor
namespace Rows

/-- THE TIED CARD OF 'isthmuslaw20.GuardLooks'. -/
def guardLooksCard : Claim7 := { stood := { row := guardLooksRow, standIns := [], harness := (true, "6e0e2cdb2be21a343e96651402fb2c3162c71ce856e67751fec42814cc1ab98c"), looks := false }, kinds := [], alts := [], laidByText := true, laidKinds := [.data, .data, .data, .data], laidTests := true, laidLooks := .later }
def GuardLooksCardSaid : Prop := Claim7.holds Tryd.pinned (.plain (OpenSpec.ofChange guardLooksSpec)) guardLooksCard

/-- THE TIED CARD OF 'isthmuslaw20.GuardWords'. -/
def guardWordsCard : Claim7 := { stood := { row := guardWordsRow, standIns := [], harness := (true, "6e0e2cdb2be21a343e96651402fb2c3162c71ce856e67751fec42814cc1ab98c"), looks := false }, kinds := [], alts := [], laidByText := true, laidKinds := [.data, .data, .data, .data], laidTests := true, laidLooks := .later }
def GuardWordsCardSaid : Prop := Claim7.holds Tryd.pinned (.plain (OpenSpec.ofChange guardWordsSpec)) guardWordsCard

/-- THE TIED CARD OF 'isthmuslaw20.GuardBounds'. -/
def guardBoundsCard : Claim7 := { stood := { row := guardBoundsRow, standIns := [], harness := (true, "6e0e2cdb2be21a343e96651402fb2c3162c71ce856e67751fec42814cc1ab98c"), looks := false }, kinds := [], alts := [], laidByText := true, laidKinds := [.data, .data, .data, .data], laidTests := true, laidLooks := .later }
def GuardBoundsCardSaid : Prop := Claim7.holds Tryd.pinned (.plain (OpenSpec.ofChange guardBoundsSpec)) guardBoundsCard

/-- THE TIED CARD OF 'isthmuslaw20.GuardCut'. -/
def guardCutCard : Claim7 := { stood := { row := guardCutRow, standIns := [], harness := (true, "6e0e2cdb2be21a343e96651402fb2c3162c71ce856e67751fec42814cc1ab98c"), looks := false }, kinds := [], alts := [], laidByText := true, laidKinds := [.data, .data, .data, .data], laidTests := true, laidLooks := .later }
def GuardCutCardSaid : Prop := Claim7.holds Tryd.pinned (.plain (OpenSpec.ofChange guardCutSpec)) guardCutCard

/-- THE TIED CARD OF 'isthmuslaw20.GuardShifts'. -/
def guardShiftsCard : Claim7 := { stood := { row := guardShiftsRow, standIns := [], harness := (true, "6e0e2cdb2be21a343e96651402fb2c3162c71ce856e67751fec42814cc1ab98c"), looks := false }, kinds := [], alts := [], laidByText := true, laidKinds := [.data, .data, .data, .data], laidTests := true, laidLooks := .later }
def GuardShiftsCardSaid : Prop := Claim7.holds Tryd.pinned (.plain (OpenSpec.ofChange guardShiftsSpec)) guardShiftsCard

/-- THE SECOND FORM's CARD OF 'isthmuslaw20.GuardLooks'. -/
def guardLooksUptoCard : Claim7 := { stood := { row := guardLooksUptoRow, standIns := [], harness := (true, "6e0e2cdb2be21a343e96651402fb2c3162c71ce856e67751fec42814cc1ab98c"), looks := false }, kinds := [], alts := [], laidByText := true, laidKinds := [.data, .data, .data, .data], laidTests := true, laidLooks := .later }
def GuardLooksUptoCardSaid : Prop := Claim7.holds Tryd.pinned (.plain (OpenSpec.upto guardLooksSpec)) guardLooksUptoCard

/-- THE SECOND FORM's CARD OF 'isthmuslaw20.GuardWords'. -/
def guardWordsUptoCard : Claim7 := { stood := { row := guardWordsUptoRow, standIns := [], harness := (true, "6e0e2cdb2be21a343e96651402fb2c3162c71ce856e67751fec42814cc1ab98c"), looks := false }, kinds := [], alts := [], laidByText := true, laidKinds := [.data, .data, .data, .data], laidTests := true, laidLooks := .later }
def GuardWordsUptoCardSaid : Prop := Claim7.holds Tryd.pinned (.plain (OpenSpec.upto guardWordsSpec)) guardWordsUptoCard

/-- THE SECOND FORM's CARD OF 'isthmuslaw20.GuardBounds'. -/
def guardBoundsUptoCard : Claim7 := { stood := { row := guardBoundsUptoRow, standIns := [], harness := (true, "6e0e2cdb2be21a343e96651402fb2c3162c71ce856e67751fec42814cc1ab98c"), looks := false }, kinds := [], alts := [], laidByText := true, laidKinds := [.data, .data, .data, .data], laidTests := true, laidLooks := .later }
def GuardBoundsUptoCardSaid : Prop := Claim7.holds Tryd.pinned (.plain (OpenSpec.upto guardBoundsSpec)) guardBoundsUptoCard

/-- THE SECOND FORM's CARD OF 'isthmuslaw20.GuardCut'. -/
def guardCutUptoCard : Claim7 := { stood := { row := guardCutUptoRow, standIns := [], harness := (true, "6e0e2cdb2be21a343e96651402fb2c3162c71ce856e67751fec42814cc1ab98c"), looks := false }, kinds := [], alts := [], laidByText := true, laidKinds := [.data, .data, .data, .data], laidTests := true, laidLooks := .later }
def GuardCutUptoCardSaid : Prop := Claim7.holds Tryd.pinned (.plain (OpenSpec.upto guardCutSpec)) guardCutUptoCard

/-- THE SECOND FORM's CARD OF 'isthmuslaw20.GuardShifts'. -/
def guardShiftsUptoCard : Claim7 := { stood := { row := guardShiftsUptoRow, standIns := [], harness := (true, "6e0e2cdb2be21a343e96651402fb2c3162c71ce856e67751fec42814cc1ab98c"), looks := false }, kinds := [], alts := [], laidByText := true, laidKinds := [.data, .data, .data, .data], laidTests := true, laidLooks := .later }
def GuardShiftsUptoCardSaid : Prop := Claim7.holds Tryd.pinned (.plain (OpenSpec.upto guardShiftsSpec)) guardShiftsUptoCard
end Rows
end Go.Proofs.YtpdfdhkdfkhfkaaDoor
