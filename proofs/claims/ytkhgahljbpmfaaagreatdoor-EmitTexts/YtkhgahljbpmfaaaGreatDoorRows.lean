/-
  NARROWER THAN 'FOR EVERY INPUT', by the rows' own cells (each row's printed sentence says how): SyntaxParses: laid · EmitPlans: loops, laid · EmitTexts: laid · EmitFits: loops, laid.
  DERIVED. THE GIVEN ROWS OF THIS SEAT. 4 by the template 'for every input the law returns true; each argument reads behind the call as it read before'; 0 by the template 'total and deterministic' (their statements: YtkhgahljbpmfaaaGreatDoorTotals.lean).
  GIVEN WITH THE SEED: the statements are not yours to turn. If you find one false, say at which input.
  Laid BY PROGRAM, IN A SANDBOX (cutbox-rows.mjs): the forced cells as the released guide's own fill.sh prints them over the translation aedd91f7431dcc0c… (all of the seat's roots in one cut). By AI agents, Wed Nov 11 2026. No macro, syntax, notation, axiom, sorry.
-/
import Derived.Test.YtkhgahljbpmfaaaGreatDoorChecked
import GoSem.Claim
import GoSem.ClaimJoined
import GoSem.ClaimMapViews
import Derived.JoinedTies
import Derived.KernelRfl
namespace Go.Proofs.YtkhgahljbpmfaaaGreatDoor
/- THE CELL 'sum', in the pinned program and in every row, IS THE sha256 OF THE DUMP (.gsa) THAT YtkhgahljbpmfaaaGreatDoorProg.lean LOADS. Nothing in Lean hashes anything: it is a label: what it is worth is what the hold of that sum in a sandbox is worth. -/
noncomputable def Tryz.pinned : Pinned := { name := "ytkhgahljbpmfaaagreatdoor", sum := "aedd91f7431dcc0ce7bb25c4844020adb493f4e7bc13b12538f8b47f8d590450", checked := Tryz.checked }
namespace Rows
def none {H : Type} : Left H := { results := [], args := [] }

/- WHAT THE LISTED PACKAGE-LEVEL VARIABLES READ AS WHEN THE CALL BEGINS. Each datum BY PROGRAM (the guide's laid-datum.mjs) off the statement by which the dump's own 'gosem.cut.vars' lays the variable. In a bare row this is a premise. The card (YtkhgahljbpmfaaaGreatDoorCards.lean) ties it to the program's text. -/
def laid_math_bits_deBruijn32tab {H : Type} : DataW H := .agg [.lit (.int .u8 0), .lit (.int .u8 1), .lit (.int .u8 28), .lit (.int .u8 2), .lit (.int .u8 29), .lit (.int .u8 14), .lit (.int .u8 24), .lit (.int .u8 3), .lit (.int .u8 30), .lit (.int .u8 22), .lit (.int .u8 20), .lit (.int .u8 15), .lit (.int .u8 25), .lit (.int .u8 17), .lit (.int .u8 4), .lit (.int .u8 8), .lit (.int .u8 31), .lit (.int .u8 27), .lit (.int .u8 13), .lit (.int .u8 23), .lit (.int .u8 21), .lit (.int .u8 19), .lit (.int .u8 16), .lit (.int .u8 7), .lit (.int .u8 26), .lit (.int .u8 12), .lit (.int .u8 18), .lit (.int .u8 6), .lit (.int .u8 11), .lit (.int .u8 5), .lit (.int .u8 10), .lit (.int .u8 9)]
def laid_math_bits_deBruijn64tab {H : Type} : DataW H := .agg [.lit (.int .u8 0), .lit (.int .u8 1), .lit (.int .u8 56), .lit (.int .u8 2), .lit (.int .u8 57), .lit (.int .u8 49), .lit (.int .u8 28), .lit (.int .u8 3), .lit (.int .u8 61), .lit (.int .u8 58), .lit (.int .u8 42), .lit (.int .u8 50), .lit (.int .u8 38), .lit (.int .u8 29), .lit (.int .u8 17), .lit (.int .u8 4), .lit (.int .u8 62), .lit (.int .u8 47), .lit (.int .u8 59), .lit (.int .u8 36), .lit (.int .u8 45), .lit (.int .u8 43), .lit (.int .u8 51), .lit (.int .u8 22), .lit (.int .u8 53), .lit (.int .u8 39), .lit (.int .u8 33), .lit (.int .u8 30), .lit (.int .u8 24), .lit (.int .u8 18), .lit (.int .u8 12), .lit (.int .u8 5), .lit (.int .u8 63), .lit (.int .u8 55), .lit (.int .u8 48), .lit (.int .u8 27), .lit (.int .u8 60), .lit (.int .u8 41), .lit (.int .u8 37), .lit (.int .u8 16), .lit (.int .u8 46), .lit (.int .u8 35), .lit (.int .u8 44), .lit (.int .u8 21), .lit (.int .u8 52), .lit (.int .u8 32), .lit (.int .u8 23), .lit (.int .u8 11), .lit (.int .u8 54), .lit (.int .u8 26), .lit (.int .u8 40), .lit (.int .u8 15), .lit (.int .u8 34), .lit (.int .u8 20), .lit (.int .u8 31), .lit (.int .u8 10), .lit (.int .u8 25), .lit (.int .u8 14), .lit (.int .u8 19), .lit (.int .u8 9), .lit (.int .u8 13), .lit (.int .u8 8), .lit (.int .u8 7), .lit (.int .u8 6)]
def laid_internal_strconv_uint64pow10 {H : Type} : DataW H := .agg [.lit (.int .u64 1), .lit (.int .u64 10), .lit (.int .u64 100), .lit (.int .u64 1000), .lit (.int .u64 10000), .lit (.int .u64 100000), .lit (.int .u64 1000000), .lit (.int .u64 10000000), .lit (.int .u64 100000000), .lit (.int .u64 1000000000), .lit (.int .u64 10000000000), .lit (.int .u64 100000000000), .lit (.int .u64 1000000000000), .lit (.int .u64 10000000000000), .lit (.int .u64 100000000000000), .lit (.int .u64 1000000000000000), .lit (.int .u64 10000000000000000), .lit (.int .u64 100000000000000000), .lit (.int .u64 1000000000000000000), .lit (.int .u64 10000000000000000000)]
def laid_strconv_ErrRange {H : Type} : DataW H := .iface "*errors.errorString" (.ptr (.agg [.lit (.string [118, 97, 108, 117, 101, 32, 111, 117, 116, 32, 111, 102, 32, 114, 97, 110, 103, 101])]))
def laid_strconv_ErrSyntax {H : Type} : DataW H := .iface "*errors.errorString" (.ptr (.agg [.lit (.string [105, 110, 118, 97, 108, 105, 100, 32, 115, 121, 110, 116, 97, 120])]))
def laid_isthmus_lex_words {H : Type} : DataW H := .agg [.lit (.string [97, 108, 108]), .lit (.string [97, 110, 100]), .lit (.string [97, 114, 111, 117, 110, 100]), .lit (.string [98, 108, 111, 99, 107]), .lit (.string [98, 111, 116, 116, 108, 101, 110, 101, 99, 107]), .lit (.string [99, 111, 110, 110, 101, 99, 116, 101, 100]), .lit (.string [99, 111, 117, 110, 116]), .lit (.string [100, 101, 103, 114, 101, 101]), .lit (.string [101, 108, 115, 101]), .lit (.string [102, 97, 108, 115, 101]), .lit (.string [105, 102]), .lit (.string [105, 110]), .lit (.string [108, 101, 97, 115, 116]), .lit (.string [109, 97, 120]), .lit (.string [109, 105, 110]), .lit (.string [109, 111, 115, 116]), .lit (.string [110, 111, 116]), .lit (.string [111, 114]), .lit (.string [114, 101, 112]), .lit (.string [115, 105, 122, 101]), .lit (.string [115, 111, 109, 101]), .lit (.string [115, 117, 109]), .lit (.string [116, 104, 101, 110]), .lit (.string [116, 111, 116, 97, 108]), .lit (.string [116, 114, 117, 101]), .lit (.string [118, 97, 108, 117, 101]), .lit (.string [118, 101, 114, 116, 105, 99, 101, 115])]
def laid_isthmus_syntax_operators {H : Type} : DataW H := .agg [.agg [.lit (.string [111, 114]), .lit (.int .i64 18), .lit (.int .i64 1), .lit (.int .i64 1), .lit (.int .i64 2)], .agg [.lit (.string [97, 110, 100]), .lit (.int .i64 17), .lit (.int .i64 2), .lit (.int .i64 2), .lit (.int .i64 3)], .agg [.lit (.string [61]), .lit (.int .i64 13), .lit (.int .i64 4), .lit (.int .i64 5), .lit (.int .i64 5)], .agg [.lit (.string [33, 61]), .lit (.int .i64 14), .lit (.int .i64 4), .lit (.int .i64 5), .lit (.int .i64 5)], .agg [.lit (.string [60]), .lit (.int .i64 15), .lit (.int .i64 4), .lit (.int .i64 5), .lit (.int .i64 5)], .agg [.lit (.string [60, 61]), .lit (.int .i64 16), .lit (.int .i64 4), .lit (.int .i64 5), .lit (.int .i64 5)], .agg [.lit (.string [43]), .lit (.int .i64 8), .lit (.int .i64 5), .lit (.int .i64 5), .lit (.int .i64 6)], .agg [.lit (.string [45]), .lit (.int .i64 9), .lit (.int .i64 5), .lit (.int .i64 5), .lit (.int .i64 6)], .agg [.lit (.string [42]), .lit (.int .i64 10), .lit (.int .i64 6), .lit (.int .i64 6), .lit (.int .i64 7)], .agg [.lit (.string [47]), .lit (.int .i64 11), .lit (.int .i64 6), .lit (.int .i64 6), .lit (.int .i64 7)], .agg [.lit (.string [37]), .lit (.int .i64 12), .lit (.int .i64 6), .lit (.int .i64 6), .lit (.int .i64 7)]]
def laid_isthmus_syntax_calls {H : Type} : DataW H := .agg [.agg [.lit (.string [99, 111, 110, 110, 101, 99, 116, 101, 100]), .lit (.int .i64 1), .lit (.int .i64 2)], .agg [.lit (.string [98, 108, 111, 99, 107]), .lit (.int .i64 2), .lit (.int .i64 2)], .agg [.lit (.string [98, 111, 116, 116, 108, 101, 110, 101, 99, 107]), .lit (.int .i64 3), .lit (.int .i64 2)], .agg [.lit (.string [115, 105, 122, 101]), .lit (.int .i64 4), .lit (.int .i64 1)], .agg [.lit (.string [116, 111, 116, 97, 108]), .lit (.int .i64 5), .lit (.int .i64 1)], .agg [.lit (.string [108, 101, 97, 115, 116]), .lit (.int .i64 6), .lit (.int .i64 1)], .agg [.lit (.string [109, 111, 115, 116]), .lit (.int .i64 7), .lit (.int .i64 1)], .agg [.lit (.string [118, 97, 108, 117, 101]), .lit (.int .i64 8), .lit (.int .i64 1)], .agg [.lit (.string [100, 101, 103, 114, 101, 101]), .lit (.int .i64 9), .lit (.int .i64 1)], .agg [.lit (.string [114, 101, 112]), .lit (.int .i64 10), .lit (.int .i64 1)]]
def laid_isthmus_syntax_quantifiers {H : Type} : DataW H := .agg [.agg [.lit (.string [97, 108, 108]), .lit (.int .i64 1)], .agg [.lit (.string [115, 111, 109, 101]), .lit (.int .i64 2)], .agg [.lit (.string [99, 111, 117, 110, 116]), .lit (.int .i64 3)], .agg [.lit (.string [115, 117, 109]), .lit (.int .i64 4)], .agg [.lit (.string [109, 105, 110]), .lit (.int .i64 5)], .agg [.lit (.string [109, 97, 120]), .lit (.int .i64 6)]]
def laid_isthmus_pack_fields {H : Type} : DataW H := .agg [.agg [.lit (.int .u64 56), .lit (.int .u64 255)], .agg [.lit (.int .u64 28), .lit (.int .u64 268435455)], .agg [.lit (.int .u64 0), .lit (.int .u64 268435455)]]
def laid_isthmus_emit_bare {H : Type} : DataW H := .agg [.lit (.int .i64 0), .lit (.int .i64 0), .lit (.int .i64 0), .lit (.int .i64 0), .lit (.int .i64 0), .lit (.int .i64 0), .lit (.int .i64 4), .lit (.int .i64 5), .lit (.int .i64 6), .lit (.int .i64 7), .lit (.int .i64 8), .lit (.int .i64 9), .lit (.int .i64 10), .lit (.int .i64 0), .lit (.int .i64 0), .lit (.int .i64 0), .lit (.int .i64 0), .lit (.int .i64 0), .lit (.int .i64 0), .lit (.int .i64 0), .lit (.int .i64 0), .lit (.int .i64 0), .lit (.int .i64 20), .lit (.int .i64 0), .lit (.int .i64 22)]
def laid_isthmus_code_rules {H : Type} : DataW H := .agg [.agg [.lit (.int .i64 0), .lit (.int .i64 0)], .agg [.lit (.int .i64 8), .lit (.int .i64 6)], .agg [.lit (.int .i64 8), .lit (.int .i64 0)], .agg [.lit (.int .i64 3), .lit (.int .i64 0)], .agg [.lit (.int .i64 0), .lit (.int .i64 0)], .agg [.lit (.int .i64 0), .lit (.int .i64 0)], .agg [.lit (.int .i64 0), .lit (.int .i64 0)], .agg [.lit (.int .i64 0), .lit (.int .i64 0)], .agg [.lit (.int .i64 0), .lit (.int .i64 0)], .agg [.lit (.int .i64 0), .lit (.int .i64 0)], .agg [.lit (.int .i64 0), .lit (.int .i64 0)], .agg [.lit (.int .i64 0), .lit (.int .i64 7)], .agg [.lit (.int .i64 0), .lit (.int .i64 2)], .agg [.lit (.int .i64 1), .lit (.int .i64 0)], .agg [.lit (.int .i64 1), .lit (.int .i64 0)], .agg [.lit (.int .i64 1), .lit (.int .i64 0)], .agg [.lit (.int .i64 4), .lit (.int .i64 0)], .agg [.lit (.int .i64 10), .lit (.int .i64 1)], .agg [.lit (.int .i64 10), .lit (.int .i64 0)], .agg [.lit (.int .i64 10), .lit (.int .i64 0)], .agg [.lit (.int .i64 0), .lit (.int .i64 0)], .agg [.lit (.int .i64 9), .lit (.int .i64 0)], .agg [.lit (.int .i64 0), .lit (.int .i64 0)], .agg [.lit (.int .i64 5), .lit (.int .i64 0)], .agg [.lit (.int .i64 1), .lit (.int .i64 0)], .agg [.lit (.int .i64 0), .lit (.int .i64 0)], .agg [.lit (.int .i64 2), .lit (.int .i64 0)], .agg [.lit (.int .i64 0), .lit (.int .i64 0)]]

/-- 'isthmuslaw12.SyntaxParses': WHATEVER THE INPUT: true; the input reads as it did. -/
def syntaxParsesSpec : ChangeSpec := { name := "syntaxParses", fn := fun _ => fun
  | [d] => { results := [.lit (.bool true)], args := [d] }
  | _ => none }
def syntaxParsesRow : OpenClaim := { program := "ytkhgahljbpmfaaagreatdoor", sum := "aedd91f7431dcc0ce7bb25c4844020adb493f4e7bc13b12538f8b47f8d590450", func := "isthmus/isthmuslaw12.SyntaxParses", spec := "syntaxParses", unfollowed := true, recurses := true, named := ["isthmus/lex.words", "strconv.ErrSyntax", "strconv.ErrRange", "internal/strconv.uint64pow10", "math/bits.deBruijn32tab", "math/bits.deBruijn64tab", "isthmus/syntax.calls", "isthmus/syntax.quantifiers", "isthmus/syntax.operators"], apart := false, laid := [("math/bits.deBruijn32tab", laid_math_bits_deBruijn32tab), ("math/bits.deBruijn64tab", laid_math_bits_deBruijn64tab), ("internal/strconv.uint64pow10", laid_internal_strconv_uint64pow10), ("strconv.ErrRange", laid_strconv_ErrRange), ("strconv.ErrSyntax", laid_strconv_ErrSyntax), ("isthmus/lex.words", laid_isthmus_lex_words), ("isthmus/syntax.operators", laid_isthmus_syntax_operators), ("isthmus/syntax.calls", laid_isthmus_syntax_calls), ("isthmus/syntax.quantifiers", laid_isthmus_syntax_quantifiers)] }
def SyntaxParsesSaid : Prop := syntaxParsesRow.holds Tryz.pinned (OpenSpec.ofChange syntaxParsesSpec)

/-- ITS FALSE NEIGHBOUR: 'it returns false'. Refute it at one input. -/
def syntaxParsesWrong : ChangeSpec := { name := "syntaxParses", fn := fun _ => fun
  | [d] => { results := [.lit (.bool false)], args := [d] }
  | _ => none }
def SyntaxParsesWrongFalsely : Prop := syntaxParsesRow.holds Tryz.pinned (OpenSpec.ofChange syntaxParsesWrong)

/-- 'isthmuslaw19.EmitPlans': WHATEVER THE INPUT: true; the input reads as it did. -/
def emitPlansSpec : ChangeSpec := { name := "emitPlans", fn := fun _ => fun
  | [d] => { results := [.lit (.bool true)], args := [d] }
  | _ => none }
def emitPlansRow : OpenClaim := { program := "ytkhgahljbpmfaaagreatdoor", sum := "aedd91f7431dcc0ce7bb25c4844020adb493f4e7bc13b12538f8b47f8d590450", func := "isthmus/isthmuslaw19.EmitPlans", spec := "emitPlans", unfollowed := true, recurses := true, named := ["isthmus/lex.words", "isthmus/pack.fields", "isthmus/emit.bare"], loops := true, apart := false, laid := [("isthmus/pack.fields", laid_isthmus_pack_fields), ("isthmus/lex.words", laid_isthmus_lex_words), ("isthmus/emit.bare", laid_isthmus_emit_bare)] }
def EmitPlansSaid : Prop := emitPlansRow.holds Tryz.pinned (OpenSpec.ofChange emitPlansSpec)

/-- ITS FALSE NEIGHBOUR: 'it returns false'. Refute it at one input. -/
def emitPlansWrong : ChangeSpec := { name := "emitPlans", fn := fun _ => fun
  | [d] => { results := [.lit (.bool false)], args := [d] }
  | _ => none }
def EmitPlansWrongFalsely : Prop := emitPlansRow.holds Tryz.pinned (OpenSpec.ofChange emitPlansWrong)

/-- 'isthmuslaw19.EmitTexts': WHATEVER THE INPUT: true; the input reads as it did. -/
def emitTextsSpec : ChangeSpec := { name := "emitTexts", fn := fun _ => fun
  | [d] => { results := [.lit (.bool true)], args := [d] }
  | _ => none }
def emitTextsRow : OpenClaim := { program := "ytkhgahljbpmfaaagreatdoor", sum := "aedd91f7431dcc0ce7bb25c4844020adb493f4e7bc13b12538f8b47f8d590450", func := "isthmus/isthmuslaw19.EmitTexts", spec := "emitTexts", unfollowed := true, recurses := true, named := ["isthmus/lex.words", "isthmus/pack.fields", "isthmus/emit.bare"], apart := false, laid := [("isthmus/pack.fields", laid_isthmus_pack_fields), ("isthmus/lex.words", laid_isthmus_lex_words), ("isthmus/emit.bare", laid_isthmus_emit_bare)] }
def EmitTextsSaid : Prop := emitTextsRow.holds Tryz.pinned (OpenSpec.ofChange emitTextsSpec)

/-- ITS FALSE NEIGHBOUR: 'it returns false'. Refute it at one input. -/
def emitTextsWrong : ChangeSpec := { name := "emitTexts", fn := fun _ => fun
  | [d] => { results := [.lit (.bool false)], args := [d] }
  | _ => none }
def EmitTextsWrongFalsely : Prop := emitTextsRow.holds Tryz.pinned (OpenSpec.ofChange emitTextsWrong)

/-- 'isthmuslaw19.EmitFits': WHATEVER THE INPUT: true; the input reads as it did. -/
def emitFitsSpec : ChangeSpec := { name := "emitFits", fn := fun _ => fun
  | [d] => { results := [.lit (.bool true)], args := [d] }
  | _ => none }
def emitFitsRow : OpenClaim := { program := "ytkhgahljbpmfaaagreatdoor", sum := "aedd91f7431dcc0ce7bb25c4844020adb493f4e7bc13b12538f8b47f8d590450", func := "isthmus/isthmuslaw19.EmitFits", spec := "emitFits", unfollowed := true, recurses := true, named := ["isthmus/lex.words", "isthmus/pack.fields", "isthmus/emit.bare", "isthmus/code.rules"], loops := true, apart := false, laid := [("isthmus/pack.fields", laid_isthmus_pack_fields), ("isthmus/lex.words", laid_isthmus_lex_words), ("isthmus/code.rules", laid_isthmus_code_rules), ("isthmus/emit.bare", laid_isthmus_emit_bare)] }
def EmitFitsSaid : Prop := emitFitsRow.holds Tryz.pinned (OpenSpec.ofChange emitFitsSpec)

/-- ITS FALSE NEIGHBOUR: 'it returns false'. Refute it at one input. -/
def emitFitsWrong : ChangeSpec := { name := "emitFits", fn := fun _ => fun
  | [d] => { results := [.lit (.bool false)], args := [d] }
  | _ => none }
def EmitFitsWrongFalsely : Prop := emitFitsRow.holds Tryz.pinned (OpenSpec.ofChange emitFitsWrong)

/- THE SECOND FORM. 'bulk': how many values and letters a reading holds, each counted each time it is reached (what is shared counts as often as it is met; a slice's spare places count too). A statement '..UptoSaid' is the law's where the arguments, and the package variables that the reading takes, are together of bulk at most 1048576: NARROWER than '..Said'. Prove '..Said' where nothing that the law and all that it calls make is longer than what came in: it says more and counts as full. Else prove '..UptoSaid'. A law counts once. -/
mutual
def uptoBulk {H : Type} : DataW H → Nat
  | .lit (.string bytes) => bytes.length + 1
  | .lit _ => 1
  | .nil => 1
  | .ptr d => uptoBulk d + 1
  | .slice elems spare => uptoBulkAll elems + uptoBulkAll spare + 1
  | .agg parts => uptoBulkAll parts + 1
  | .iface _ d => uptoBulk d + 1
  | .map entries => uptoBulkEntries entries + 1
  | .held _ => 1
def uptoBulkAll {H : Type} : List (DataW H) → Nat
  | [] => 0
  | d :: r => uptoBulk d + uptoBulkAll r
def uptoBulkEntries {H : Type} : List (Lit × DataW H) → Nat
  | [] => 0
  | x :: r => uptoBulkEntry x + uptoBulkEntries r
def uptoBulkEntry {H : Type} : Lit × DataW H → Nat
  | (.string bytes, d) => bytes.length + uptoBulk d + 1
  | (_, d) => uptoBulk d + 1
 end
def uptoSmall : (H : Type) → List (DataW H) → Bool := fun _ ds => decide (uptoBulkAll ds ≤ 1048576)
def OpenSpec.upto (s : _root_.Go.ChangeSpec) : _root_.Go.OpenSpec := { _root_.Go.OpenSpec.ofChange s with cond := some uptoSmall }

/-- 'isthmuslaw12.SyntaxParses', WHERE WHAT IT READS IS OF BULK AT MOST 1048576: true; the input reads as it did. -/
def syntaxParsesUptoRow : OpenClaim := { program := "ytkhgahljbpmfaaagreatdoor", sum := "aedd91f7431dcc0ce7bb25c4844020adb493f4e7bc13b12538f8b47f8d590450", func := "isthmus/isthmuslaw12.SyntaxParses", spec := "syntaxParses", unfollowed := true, recurses := true, named := ["isthmus/lex.words", "strconv.ErrSyntax", "strconv.ErrRange", "internal/strconv.uint64pow10", "math/bits.deBruijn32tab", "math/bits.deBruijn64tab", "isthmus/syntax.calls", "isthmus/syntax.quantifiers", "isthmus/syntax.operators"], apart := false, laid := [("math/bits.deBruijn32tab", laid_math_bits_deBruijn32tab), ("math/bits.deBruijn64tab", laid_math_bits_deBruijn64tab), ("internal/strconv.uint64pow10", laid_internal_strconv_uint64pow10), ("strconv.ErrRange", laid_strconv_ErrRange), ("strconv.ErrSyntax", laid_strconv_ErrSyntax), ("isthmus/lex.words", laid_isthmus_lex_words), ("isthmus/syntax.operators", laid_isthmus_syntax_operators), ("isthmus/syntax.calls", laid_isthmus_syntax_calls), ("isthmus/syntax.quantifiers", laid_isthmus_syntax_quantifiers)], narrowed := true }
def SyntaxParsesUptoSaid : Prop := syntaxParsesUptoRow.holds Tryz.pinned (OpenSpec.upto syntaxParsesSpec)

/-- 'isthmuslaw19.EmitPlans', WHERE WHAT IT READS IS OF BULK AT MOST 1048576: true; the input reads as it did. -/
def emitPlansUptoRow : OpenClaim := { program := "ytkhgahljbpmfaaagreatdoor", sum := "aedd91f7431dcc0ce7bb25c4844020adb493f4e7bc13b12538f8b47f8d590450", func := "isthmus/isthmuslaw19.EmitPlans", spec := "emitPlans", unfollowed := true, recurses := true, named := ["isthmus/lex.words", "isthmus/pack.fields", "isthmus/emit.bare"], loops := true, apart := false, laid := [("isthmus/pack.fields", laid_isthmus_pack_fields), ("isthmus/lex.words", laid_isthmus_lex_words), ("isthmus/emit.bare", laid_isthmus_emit_bare)], narrowed := true }
def EmitPlansUptoSaid : Prop := emitPlansUptoRow.holds Tryz.pinned (OpenSpec.upto emitPlansSpec)

/-- 'isthmuslaw19.EmitTexts', WHERE WHAT IT READS IS OF BULK AT MOST 1048576: true; the input reads as it did. -/
def emitTextsUptoRow : OpenClaim := { program := "ytkhgahljbpmfaaagreatdoor", sum := "aedd91f7431dcc0ce7bb25c4844020adb493f4e7bc13b12538f8b47f8d590450", func := "isthmus/isthmuslaw19.EmitTexts", spec := "emitTexts", unfollowed := true, recurses := true, named := ["isthmus/lex.words", "isthmus/pack.fields", "isthmus/emit.bare"], apart := false, laid := [("isthmus/pack.fields", laid_isthmus_pack_fields), ("isthmus/lex.words", laid_isthmus_lex_words), ("isthmus/emit.bare", laid_isthmus_emit_bare)], narrowed := true }
def EmitTextsUptoSaid : Prop := emitTextsUptoRow.holds Tryz.pinned (OpenSpec.upto emitTextsSpec)

/-- 'isthmuslaw19.EmitFits', WHERE WHAT IT READS IS OF BULK AT MOST 1048576: true; the input reads as it did. -/
def emitFitsUptoRow : OpenClaim := { program := "ytkhgahljbpmfaaagreatdoor", sum := "aedd91f7431dcc0ce7bb25c4844020adb493f4e7bc13b12538f8b47f8d590450", func := "isthmus/isthmuslaw19.EmitFits", spec := "emitFits", unfollowed := true, recurses := true, named := ["isthmus/lex.words", "isthmus/pack.fields", "isthmus/emit.bare", "isthmus/code.rules"], loops := true, apart := false, laid := [("isthmus/pack.fields", laid_isthmus_pack_fields), ("isthmus/lex.words", laid_isthmus_lex_words), ("isthmus/code.rules", laid_isthmus_code_rules), ("isthmus/emit.bare", laid_isthmus_emit_bare)], narrowed := true }
def EmitFitsUptoSaid : Prop := emitFitsUptoRow.holds Tryz.pinned (OpenSpec.upto emitFitsSpec)

end Rows
end Go.Proofs.YtkhgahljbpmfaaaGreatDoor
