/-
  DERIVED. GIVEN WITH THE SEED: THE PROGRAM's TIES (one call each: nine closed facts by the kernel) AND EACH ROW's TIE, after the 31st guide's Derived/Test/Toyas{Tie, Card}.lean. No idea stands in it: it is a product of the set-up. Laid BY PROGRAM, IN A SANDBOX (cutbox-door.mjs). By AI agents, Wed Nov 11 2026. No macro, syntax, notation, axiom, sorry.
-/
import Derived.Test.YtkhgahljbpmfaaaGreatDoorRows
import Derived.LaidByTextLater
import Derived.SevenTiedAt
import Derived.LaidSub
import Derived.LaidOnce
namespace Go.Proofs.YtkhgahljbpmfaaaGreatDoor
open Go
set_option maxRecDepth 100000
theorem seatTie1 : Tryz.prog.laidByTextLater [("math/bits.deBruijn32tab", Rows.laid_math_bits_deBruijn32tab), ("math/bits.deBruijn64tab", Rows.laid_math_bits_deBruijn64tab), ("internal/strconv.uint64pow10", Rows.laid_internal_strconv_uint64pow10), ("strconv.ErrRange", Rows.laid_strconv_ErrRange), ("strconv.ErrSyntax", Rows.laid_strconv_ErrSyntax), ("isthmus/lex.words", Rows.laid_isthmus_lex_words), ("isthmus/syntax.operators", Rows.laid_isthmus_syntax_operators), ("isthmus/syntax.calls", Rows.laid_isthmus_syntax_calls), ("isthmus/syntax.quantifiers", Rows.laid_isthmus_syntax_quantifiers)] [.data, .data, .data, .sentinel, .sentinel, .data, .data, .data, .data] true :=
  Program.laidByTextLater_by_one 155 8 65 (by kernel_rfl) (by kernel_rfl) (by kernel_rfl) (by kernel_rfl) (by kernel_rfl) (by kernel_rfl) (fun _ _ => by kernel_rfl)
theorem seatTie2 : Tryz.prog.laidByTextLater [("isthmus/pack.fields", Rows.laid_isthmus_pack_fields), ("isthmus/lex.words", Rows.laid_isthmus_lex_words), ("isthmus/code.rules", Rows.laid_isthmus_code_rules), ("isthmus/emit.bare", Rows.laid_isthmus_emit_bare)] [.data, .data, .data, .data] true :=
  Program.laidByTextLater_by_one 155 8 65 (by kernel_rfl) (by kernel_rfl) (by kernel_rfl) (by kernel_rfl) (by kernel_rfl) (by kernel_rfl) (fun _ _ => by kernel_rfl)
theorem noOwnUnsafe : Tryz.pinned.checked.prog.headLifts.contains "ownunsafe" = false := by kernel_rfl
theorem tie : Tryz.prog.laidByTextLater [("math/bits.deBruijn32tab", Rows.laid_math_bits_deBruijn32tab), ("math/bits.deBruijn64tab", Rows.laid_math_bits_deBruijn64tab), ("internal/strconv.uint64pow10", Rows.laid_internal_strconv_uint64pow10), ("strconv.ErrRange", Rows.laid_strconv_ErrRange), ("strconv.ErrSyntax", Rows.laid_strconv_ErrSyntax), ("isthmus/lex.words", Rows.laid_isthmus_lex_words), ("isthmus/syntax.operators", Rows.laid_isthmus_syntax_operators), ("isthmus/syntax.calls", Rows.laid_isthmus_syntax_calls), ("isthmus/syntax.quantifiers", Rows.laid_isthmus_syntax_quantifiers)] [.data, .data, .data, .sentinel, .sentinel, .data, .data, .data, .data] true :=
  Program.laidByTextLater.sub seatTie1 ["math/bits.deBruijn32tab", "math/bits.deBruijn64tab", "internal/strconv.uint64pow10", "strconv.ErrRange", "strconv.ErrSyntax", "isthmus/lex.words", "isthmus/syntax.operators", "isthmus/syntax.calls", "isthmus/syntax.quantifiers"] (by kernel_rfl) (by kernel_rfl)
theorem syntaxParses_row_tie : Rows.syntaxParsesRow.laidByTextAt .later Tryz.pinned [.data, .data, .data, .sentinel, .sentinel, .data, .data, .data, .data] true :=
  OpenClaim.laidByTextAt_later rfl rfl tie noOwnUnsafe
theorem tie2 : Tryz.prog.laidByTextLater [("isthmus/pack.fields", Rows.laid_isthmus_pack_fields), ("isthmus/lex.words", Rows.laid_isthmus_lex_words), ("isthmus/emit.bare", Rows.laid_isthmus_emit_bare)] [.data, .data, .data] true :=
  Program.laidByTextLater.sub seatTie2 ["isthmus/pack.fields", "isthmus/lex.words", "isthmus/emit.bare"] (by kernel_rfl) (by kernel_rfl)
theorem emitPlans_row_tie : Rows.emitPlansRow.laidByTextAt .later Tryz.pinned [.data, .data, .data] true :=
  OpenClaim.laidByTextAt_later rfl rfl tie2 noOwnUnsafe
theorem emitTexts_row_tie : Rows.emitTextsRow.laidByTextAt .later Tryz.pinned [.data, .data, .data] true :=
  OpenClaim.laidByTextAt_later rfl rfl tie2 noOwnUnsafe
theorem tie3 : Tryz.prog.laidByTextLater [("isthmus/pack.fields", Rows.laid_isthmus_pack_fields), ("isthmus/lex.words", Rows.laid_isthmus_lex_words), ("isthmus/code.rules", Rows.laid_isthmus_code_rules), ("isthmus/emit.bare", Rows.laid_isthmus_emit_bare)] [.data, .data, .data, .data] true :=
  Program.laidByTextLater.sub seatTie2 ["isthmus/pack.fields", "isthmus/lex.words", "isthmus/code.rules", "isthmus/emit.bare"] (by kernel_rfl) (by kernel_rfl)
theorem emitFits_row_tie : Rows.emitFitsRow.laidByTextAt .later Tryz.pinned [.data, .data, .data, .data] true :=
  OpenClaim.laidByTextAt_later rfl rfl tie3 noOwnUnsafe
theorem syntaxParsesUpto_row_tie : Rows.syntaxParsesUptoRow.laidByTextAt .later Tryz.pinned [.data, .data, .data, .sentinel, .sentinel, .data, .data, .data, .data] true :=
  OpenClaim.laidByTextAt_later rfl rfl tie noOwnUnsafe
theorem emitPlansUpto_row_tie : Rows.emitPlansUptoRow.laidByTextAt .later Tryz.pinned [.data, .data, .data] true :=
  OpenClaim.laidByTextAt_later rfl rfl tie2 noOwnUnsafe
theorem emitTextsUpto_row_tie : Rows.emitTextsUptoRow.laidByTextAt .later Tryz.pinned [.data, .data, .data] true :=
  OpenClaim.laidByTextAt_later rfl rfl tie2 noOwnUnsafe
theorem emitFitsUpto_row_tie : Rows.emitFitsUptoRow.laidByTextAt .later Tryz.pinned [.data, .data, .data, .data] true :=
  OpenClaim.laidByTextAt_later rfl rfl tie3 noOwnUnsafe
end Go.Proofs.YtkhgahljbpmfaaaGreatDoor
