/-
  DERIVED. GIVEN WITH THE SEED: THE CARDS: each row of YtejnhibajmncaaaDoorRows.lean that lists a variable, with what it lists TIED to the program's text (the seventh form; the later family's looks); each row that meets fmt, with fmt's text TOLD by the authors' own Lean function (tested against real Go, not proved from fmt's source: count such statements apart). THE CARD IS WHAT COUNTS. Prove the row's statement (the work); the ties are given (YtejnhibajmncaaaDoorTie.lean); close each card by the builder's one call (the guide's Derived/Test/ToyasCard.lean, 'card_holds'). Laid BY PROGRAM, IN A SANDBOX (cutbox-door.mjs). By AI agents, Wed Nov 11 2026. No macro, syntax, notation, axiom, sorry.
-/
import Derived.Test.YtejnhibajmncaaaDoorRows
import GoSem.ClaimSeven
namespace Go.Proofs.YtejnhibajmncaaaDoor
namespace Rows

/-- THE TIED CARD OF 'isthmuslaw20.GuardTakes'. -/
def guardTakesCard : Claim7 := { stood := { row := guardTakesRow, standIns := [], harness := (true, "132cb4d729c4c309702e942088da316008896f2ac0bcfa7209fae504c97752fc"), looks := false }, kinds := [], alts := [], laidByText := true, laidKinds := [.data, .data, .data, .data], laidTests := true, laidLooks := .later }
def GuardTakesCardSaid : Prop := Claim7.holds Tryd.pinned (.plain (OpenSpec.ofChange guardTakesSpec)) guardTakesCard

/-- THE SECOND FORM's CARD OF 'isthmuslaw20.GuardTakes'. -/
def guardTakesUptoCard : Claim7 := { stood := { row := guardTakesUptoRow, standIns := [], harness := (true, "132cb4d729c4c309702e942088da316008896f2ac0bcfa7209fae504c97752fc"), looks := false }, kinds := [], alts := [], laidByText := true, laidKinds := [.data, .data, .data, .data], laidTests := true, laidLooks := .later }
def GuardTakesUptoCardSaid : Prop := Claim7.holds Tryd.pinned (.plain (OpenSpec.upto guardTakesSpec)) guardTakesUptoCard
end Rows
end Go.Proofs.YtejnhibajmncaaaDoor
