/-
  DERIVED. GIVEN WITH THE SEED: THE CARDS: each row of YtmpkhbblakfglaaDoorRows.lean that lists a variable, with what it lists TIED to the program's text (the seventh form; the later family's looks); each row that meets fmt, with fmt's text TOLD by the authors' own Lean function (tested against real Go, not proved from fmt's source: count such statements apart). THE CARD IS WHAT COUNTS. Prove the row's statement (the work); the ties are given (YtmpkhbblakfglaaDoorTie.lean); close each card by the builder's one call (the guide's Derived/Test/ToyasCard.lean, 'card_holds'). Laid BY PROGRAM, IN A SANDBOX (cutbox-door.mjs). By AI agents, Wed Nov 11 2026. No macro, syntax, notation, axiom, sorry.
-/
import Derived.Test.YtmpkhbblakfglaaDoorRows
import GoSem.ClaimSeven
namespace Go.Proofs.YtmpkhbblakfglaaDoor
namespace Rows

/-- THE TIED CARD OF 'isthmuslaw09.VsetFamilies'. -/
def vsetFamiliesCard : Claim7 := { stood := { row := vsetFamiliesRow, standIns := [], harness := (true, "85d3e1bf8b788b23141901701e6ef785da18b75a139fc38fc8058687db098b8e"), looks := false }, kinds := [], alts := [], laidByText := true, laidKinds := [.data, .data], laidTests := true, laidLooks := .later }
def VsetFamiliesCardSaid : Prop := Claim7.holds Tryd.pinned (.plain (OpenSpec.ofChange vsetFamiliesSpec)) vsetFamiliesCard

/-- THE SECOND FORM's CARD OF 'isthmuslaw09.VsetFamilies'. -/
def vsetFamiliesUptoCard : Claim7 := { stood := { row := vsetFamiliesUptoRow, standIns := [], harness := (true, "85d3e1bf8b788b23141901701e6ef785da18b75a139fc38fc8058687db098b8e"), looks := false }, kinds := [], alts := [], laidByText := true, laidKinds := [.data, .data], laidTests := true, laidLooks := .later }
def VsetFamiliesUptoCardSaid : Prop := Claim7.holds Tryd.pinned (.plain (OpenSpec.upto vsetFamiliesSpec)) vsetFamiliesUptoCard
end Rows
end Go.Proofs.YtmpkhbblakfglaaDoor
