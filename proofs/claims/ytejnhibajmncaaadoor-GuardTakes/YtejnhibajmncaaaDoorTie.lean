/-
  DERIVED. GIVEN WITH THE SEED: THE PROGRAM's TIES (one call each: nine closed facts by the kernel) AND EACH ROW's TIE, after the 31st guide's Derived/Test/Toyas{Tie, Card}.lean. No idea stands in it: it is a product of the set-up. Laid BY PROGRAM, IN A SANDBOX (cutbox-door.mjs). By AI agents, Wed Nov 11 2026. No macro, syntax, notation, axiom, sorry.
-/
import Derived.Test.YtejnhibajmncaaaDoorRows
import Derived.LaidByTextLater
import Derived.SevenTiedAt
import Derived.LaidSub
import Derived.LaidOnce
namespace Go.Proofs.YtejnhibajmncaaaDoor
open Go
set_option maxRecDepth 100000
theorem seatTie1 : Tryd.prog.laidByTextLater [("isthmus/pack.fields", Rows.laid_isthmus_pack_fields), ("math/bits.deBruijn64tab", Rows.laid_math_bits_deBruijn64tab), ("isthmus/lex.words", Rows.laid_isthmus_lex_words), ("isthmus/code.rules", Rows.laid_isthmus_code_rules)] [.data, .data, .data, .data] true :=
  Program.laidByTextLater_by_one 60 8 65 (by kernel_rfl) (by kernel_rfl) (by kernel_rfl) (by kernel_rfl) (by kernel_rfl) (by kernel_rfl) (fun _ _ => by kernel_rfl)
theorem noOwnUnsafe : Tryd.pinned.checked.prog.headLifts.contains "ownunsafe" = false := by kernel_rfl
theorem tie : Tryd.prog.laidByTextLater [("isthmus/pack.fields", Rows.laid_isthmus_pack_fields), ("math/bits.deBruijn64tab", Rows.laid_math_bits_deBruijn64tab), ("isthmus/lex.words", Rows.laid_isthmus_lex_words), ("isthmus/code.rules", Rows.laid_isthmus_code_rules)] [.data, .data, .data, .data] true :=
  Program.laidByTextLater.sub seatTie1 ["isthmus/pack.fields", "math/bits.deBruijn64tab", "isthmus/lex.words", "isthmus/code.rules"] (by kernel_rfl) (by kernel_rfl)
theorem guardTakes_row_tie : Rows.guardTakesRow.laidByTextAt .later Tryd.pinned [.data, .data, .data, .data] true :=
  OpenClaim.laidByTextAt_later rfl rfl tie noOwnUnsafe
theorem guardTakesUpto_row_tie : Rows.guardTakesUptoRow.laidByTextAt .later Tryd.pinned [.data, .data, .data, .data] true :=
  OpenClaim.laidByTextAt_later rfl rfl tie noOwnUnsafe
end Go.Proofs.YtejnhibajmncaaaDoor
