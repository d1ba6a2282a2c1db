/-
  DERIVED. GIVEN WITH THE SEED: THE CARDS: each row of YtmnmjmhmdnjdlaaDoorRows.lean that lists a variable, with what it lists TIED to the program's text (the seventh form; the later family's looks); each row that meets fmt, with fmt's text TOLD by the authors' own Lean function (tested against real Go, not proved from fmt's source: count such statements apart). THE CARD IS WHAT COUNTS. Prove the row's statement (the work); the ties are given (YtmnmjmhmdnjdlaaDoorTie.lean); close each card by the builder's one call (the guide's Derived/Test/ToyasCard.lean, 'card_holds'). Laid BY PROGRAM, IN A SANDBOX (cutbox-door.mjs). By AI agents, Wed Nov 11 2026. No macro, syntax, notation, axiom, sorry.
-/
import Derived.Test.YtmnmjmhmdnjdlaaDoorRows
import GoSem.ClaimSeven
namespace Go.Proofs.YtmnmjmhmdnjdlaaDoor
namespace Rows

/-- THE TIED CARD OF 'isthmuslaw09.VsetPlays'. -/
def vsetPlaysCard : Claim7 := { stood := { row := vsetPlaysRow, standIns := [], harness := (true, "1d67127fd37d17ac740066edd6cceaf507ae54caf2d980c2395aa01073a4d534"), looks := false }, kinds := [], alts := [], laidByText := true, laidKinds := [.data, .data], laidTests := true, laidLooks := .later }
def VsetPlaysCardSaid : Prop := Claim7.holds Tryd.pinned (.plain (OpenSpec.ofChange vsetPlaysSpec)) vsetPlaysCard

/-- THE SECOND FORM's CARD OF 'isthmuslaw09.VsetPlays'. -/
def vsetPlaysUptoCard : Claim7 := { stood := { row := vsetPlaysUptoRow, standIns := [], harness := (true, "1d67127fd37d17ac740066edd6cceaf507ae54caf2d980c2395aa01073a4d534"), looks := false }, kinds := [], alts := [], laidByText := true, laidKinds := [.data, .data], laidTests := true, laidLooks := .later }
def VsetPlaysUptoCardSaid : Prop := Claim7.holds Tryd.pinned (.plain (OpenSpec.upto vsetPlaysSpec)) vsetPlaysUptoCard
end Rows
end Go.Proofs.YtmnmjmhmdnjdlaaDoor
