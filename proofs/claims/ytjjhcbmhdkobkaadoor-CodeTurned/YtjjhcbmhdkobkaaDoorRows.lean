/-
  NARROWER THAN 'FOR EVERY INPUT', by the rows' own cells (each row's printed sentence says how): CodeRights: laid · CodeWords: laid · CodeReads: laid · CodeTurned: laid · CodeBack: laid · CodeBackWords: laid.
  DERIVED. THE GIVEN ROWS OF THIS SEAT. 6 by the template 'for every input the law returns true; each argument reads behind the call as it read before'; 0 by the template 'total and deterministic' (their statements: YtjjhcbmhdkobkaaDoorTotals.lean).
  GIVEN WITH THE SEED: the statements are not yours to turn. If you find one false, say at which input.
  Laid BY PROGRAM, IN A SANDBOX (cutbox-rows.mjs): the forced cells as the released guide's own fill.sh prints them over the translation 32542236a0c55386… (all of the seat's roots in one cut). By AI agents, Wed Nov 11 2026. No macro, syntax, notation, axiom, sorry.
-/
import Derived.Test.YtjjhcbmhdkobkaaDoorChecked
import GoSem.Claim
import GoSem.ClaimJoined
import GoSem.ClaimMapViews
import Derived.JoinedTies
import Derived.KernelRfl
namespace Go.Proofs.YtjjhcbmhdkobkaaDoor
/- THE CELL 'sum', in the pinned program and in every row, IS THE sha256 OF THE DUMP (.gsa) THAT YtjjhcbmhdkobkaaDoorProg.lean LOADS. Nothing in Lean hashes anything: it is a label: what it is worth is what the hold of that sum in a sandbox is worth. -/
noncomputable def Tryd.pinned : Pinned := { name := "ytjjhcbmhdkobkaadoor", sum := "32542236a0c553860e7e0d35d0216aba2aa4f23ba56c5daa308b41e7cf2af873", checked := Tryd.checked }
namespace Rows
def none {H : Type} : Left H := { results := [], args := [] }

/- WHAT THE LISTED PACKAGE-LEVEL VARIABLES READ AS WHEN THE CALL BEGINS. Each datum BY PROGRAM (the guide's laid-datum.mjs) off the statement by which the dump's own 'gosem.cut.vars' lays the variable. In a bare row this is a premise. The card (YtjjhcbmhdkobkaaDoorCards.lean) ties it to the program's text. -/
def laid_isthmus_pack_fields {H : Type} : DataW H := .agg [.agg [.lit (.int .u64 56), .lit (.int .u64 255)], .agg [.lit (.int .u64 28), .lit (.int .u64 268435455)], .agg [.lit (.int .u64 0), .lit (.int .u64 268435455)]]
def laid_isthmus_lex_words {H : Type} : DataW H := .agg [.lit (.string [97, 108, 108]), .lit (.string [97, 110, 100]), .lit (.string [97, 114, 111, 117, 110, 100]), .lit (.string [98, 108, 111, 99, 107]), .lit (.string [98, 111, 116, 116, 108, 101, 110, 101, 99, 107]), .lit (.string [99, 111, 110, 110, 101, 99, 116, 101, 100]), .lit (.string [99, 111, 117, 110, 116]), .lit (.string [100, 101, 103, 114, 101, 101]), .lit (.string [101, 108, 115, 101]), .lit (.string [102, 97, 108, 115, 101]), .lit (.string [105, 102]), .lit (.string [105, 110]), .lit (.string [108, 101, 97, 115, 116]), .lit (.string [109, 97, 120]), .lit (.string [109, 105, 110]), .lit (.string [109, 111, 115, 116]), .lit (.string [110, 111, 116]), .lit (.string [111, 114]), .lit (.string [114, 101, 112]), .lit (.string [115, 105, 122, 101]), .lit (.string [115, 111, 109, 101]), .lit (.string [115, 117, 109]), .lit (.string [116, 104, 101, 110]), .lit (.string [116, 111, 116, 97, 108]), .lit (.string [116, 114, 117, 101]), .lit (.string [118, 97, 108, 117, 101]), .lit (.string [118, 101, 114, 116, 105, 99, 101, 115])]
def laid_isthmus_code_rules {H : Type} : DataW H := .agg [.agg [.lit (.int .i64 0), .lit (.int .i64 0)], .agg [.lit (.int .i64 8), .lit (.int .i64 6)], .agg [.lit (.int .i64 8), .lit (.int .i64 0)], .agg [.lit (.int .i64 3), .lit (.int .i64 0)], .agg [.lit (.int .i64 0), .lit (.int .i64 0)], .agg [.lit (.int .i64 0), .lit (.int .i64 0)], .agg [.lit (.int .i64 0), .lit (.int .i64 0)], .agg [.lit (.int .i64 0), .lit (.int .i64 0)], .agg [.lit (.int .i64 0), .lit (.int .i64 0)], .agg [.lit (.int .i64 0), .lit (.int .i64 0)], .agg [.lit (.int .i64 0), .lit (.int .i64 0)], .agg [.lit (.int .i64 0), .lit (.int .i64 7)], .agg [.lit (.int .i64 0), .lit (.int .i64 2)], .agg [.lit (.int .i64 1), .lit (.int .i64 0)], .agg [.lit (.int .i64 1), .lit (.int .i64 0)], .agg [.lit (.int .i64 1), .lit (.int .i64 0)], .agg [.lit (.int .i64 4), .lit (.int .i64 0)], .agg [.lit (.int .i64 10), .lit (.int .i64 1)], .agg [.lit (.int .i64 10), .lit (.int .i64 0)], .agg [.lit (.int .i64 10), .lit (.int .i64 0)], .agg [.lit (.int .i64 0), .lit (.int .i64 0)], .agg [.lit (.int .i64 9), .lit (.int .i64 0)], .agg [.lit (.int .i64 0), .lit (.int .i64 0)], .agg [.lit (.int .i64 5), .lit (.int .i64 0)], .agg [.lit (.int .i64 1), .lit (.int .i64 0)], .agg [.lit (.int .i64 0), .lit (.int .i64 0)], .agg [.lit (.int .i64 2), .lit (.int .i64 0)], .agg [.lit (.int .i64 0), .lit (.int .i64 0)]]

/-- 'isthmuslaw18.CodeRights': WHATEVER THE INPUT: true; the input reads as it did. -/
def codeRightsSpec : ChangeSpec := { name := "codeRights", fn := fun _ => fun
  | [d] => { results := [.lit (.bool true)], args := [d] }
  | _ => none }
def codeRightsRow : OpenClaim := { program := "ytjjhcbmhdkobkaadoor", sum := "32542236a0c553860e7e0d35d0216aba2aa4f23ba56c5daa308b41e7cf2af873", func := "isthmus/isthmuslaw18.CodeRights", spec := "codeRights", unfollowed := true, recurses := true, named := ["isthmus/lex.words", "isthmus/code.rules", "isthmus/pack.fields"], apart := false, laid := [("isthmus/pack.fields", laid_isthmus_pack_fields), ("isthmus/lex.words", laid_isthmus_lex_words), ("isthmus/code.rules", laid_isthmus_code_rules)] }
def CodeRightsSaid : Prop := codeRightsRow.holds Tryd.pinned (OpenSpec.ofChange codeRightsSpec)

/-- ITS FALSE NEIGHBOUR: 'it returns false'. Refute it at one input. -/
def codeRightsWrong : ChangeSpec := { name := "codeRights", fn := fun _ => fun
  | [d] => { results := [.lit (.bool false)], args := [d] }
  | _ => none }
def CodeRightsWrongFalsely : Prop := codeRightsRow.holds Tryd.pinned (OpenSpec.ofChange codeRightsWrong)

/-- 'isthmuslaw18.CodeWords': WHATEVER THE INPUT: true; the input reads as it did. -/
def codeWordsSpec : ChangeSpec := { name := "codeWords", fn := fun _ => fun
  | [d1, d2, d3] => { results := [.lit (.bool true)], args := [d1, d2, d3] }
  | _ => none }
def codeWordsRow : OpenClaim := { program := "ytjjhcbmhdkobkaadoor", sum := "32542236a0c553860e7e0d35d0216aba2aa4f23ba56c5daa308b41e7cf2af873", func := "isthmus/isthmuslaw18.CodeWords", spec := "codeWords", unfollowed := true, recurses := true, named := ["isthmus/lex.words", "isthmus/code.rules", "isthmus/pack.fields"], apart := false, laid := [("isthmus/pack.fields", laid_isthmus_pack_fields), ("isthmus/lex.words", laid_isthmus_lex_words), ("isthmus/code.rules", laid_isthmus_code_rules)] }
def CodeWordsSaid : Prop := codeWordsRow.holds Tryd.pinned (OpenSpec.ofChange codeWordsSpec)

/-- ITS FALSE NEIGHBOUR: 'it returns false'. Refute it at one input. -/
def codeWordsWrong : ChangeSpec := { name := "codeWords", fn := fun _ => fun
  | [d1, d2, d3] => { results := [.lit (.bool false)], args := [d1, d2, d3] }
  | _ => none }
def CodeWordsWrongFalsely : Prop := codeWordsRow.holds Tryd.pinned (OpenSpec.ofChange codeWordsWrong)

/-- 'isthmuslaw18.CodeReads': WHATEVER THE INPUT: true; the input reads as it did. -/
def codeReadsSpec : ChangeSpec := { name := "codeReads", fn := fun _ => fun
  | [d] => { results := [.lit (.bool true)], args := [d] }
  | _ => none }
def codeReadsRow : OpenClaim := { program := "ytjjhcbmhdkobkaadoor", sum := "32542236a0c553860e7e0d35d0216aba2aa4f23ba56c5daa308b41e7cf2af873", func := "isthmus/isthmuslaw18.CodeReads", spec := "codeReads", unfollowed := true, recurses := true, named := ["isthmus/lex.words", "isthmus/code.rules", "isthmus/pack.fields"], apart := false, laid := [("isthmus/pack.fields", laid_isthmus_pack_fields), ("isthmus/lex.words", laid_isthmus_lex_words), ("isthmus/code.rules", laid_isthmus_code_rules)] }
def CodeReadsSaid : Prop := codeReadsRow.holds Tryd.pinned (OpenSpec.ofChange codeReadsSpec)

/-- ITS FALSE NEIGHBOUR: 'it returns false'. Refute it at one input. -/
def codeReadsWrong : ChangeSpec := { name := "codeReads", fn := fun _ => fun
  | [d] => { results := [.lit (.bool false)], args := [d] }
  | _ => none }
def CodeReadsWrongFalsely : Prop := codeReadsRow.holds Tryd.pinned (OpenSpec.ofChange codeReadsWrong)

/-- 'isthmuslaw18.CodeTurned': WHATEVER THE INPUT: true; the input reads as it did. -/
def codeTurnedSpec : ChangeSpec := { name := "codeTurned", fn := fun _ => fun
  | [d1, d2, d3, d4, d5] => { results := [.lit (.bool true)], args := [d1, d2, d3, d4, d5] }
  | _ => none }
def codeTurnedRow : OpenClaim := { program := "ytjjhcbmhdkobkaadoor", sum := "32542236a0c553860e7e0d35d0216aba2aa4f23ba56c5daa308b41e7cf2af873", func := "isthmus/isthmuslaw18.CodeTurned", spec := "codeTurned", unfollowed := true, recurses := true, named := ["isthmus/lex.words", "isthmus/code.rules", "isthmus/pack.fields"], apart := false, laid := [("isthmus/pack.fields", laid_isthmus_pack_fields), ("isthmus/lex.words", laid_isthmus_lex_words), ("isthmus/code.rules", laid_isthmus_code_rules)] }
def CodeTurnedSaid : Prop := codeTurnedRow.holds Tryd.pinned (OpenSpec.ofChange codeTurnedSpec)

/-- ITS FALSE NEIGHBOUR: 'it returns false'. Refute it at one input. -/
def codeTurnedWrong : ChangeSpec := { name := "codeTurned", fn := fun _ => fun
  | [d1, d2, d3, d4, d5] => { results := [.lit (.bool false)], args := [d1, d2, d3, d4, d5] }
  | _ => none }
def CodeTurnedWrongFalsely : Prop := codeTurnedRow.holds Tryd.pinned (OpenSpec.ofChange codeTurnedWrong)

/-- 'isthmuslaw18.CodeBack': WHATEVER THE INPUT: true; the input reads as it did. -/
def codeBackSpec : ChangeSpec := { name := "codeBack", fn := fun _ => fun
  | [d1, d2] => { results := [.lit (.bool true)], args := [d1, d2] }
  | _ => none }
def codeBackRow : OpenClaim := { program := "ytjjhcbmhdkobkaadoor", sum := "32542236a0c553860e7e0d35d0216aba2aa4f23ba56c5daa308b41e7cf2af873", func := "isthmus/isthmuslaw18.CodeBack", spec := "codeBack", unfollowed := true, recurses := true, named := ["isthmus/lex.words", "isthmus/code.rules", "isthmus/pack.fields"], apart := false, laid := [("isthmus/pack.fields", laid_isthmus_pack_fields), ("isthmus/lex.words", laid_isthmus_lex_words), ("isthmus/code.rules", laid_isthmus_code_rules)] }
def CodeBackSaid : Prop := codeBackRow.holds Tryd.pinned (OpenSpec.ofChange codeBackSpec)

/-- ITS FALSE NEIGHBOUR: 'it returns false'. Refute it at one input. -/
def codeBackWrong : ChangeSpec := { name := "codeBack", fn := fun _ => fun
  | [d1, d2] => { results := [.lit (.bool false)], args := [d1, d2] }
  | _ => none }
def CodeBackWrongFalsely : Prop := codeBackRow.holds Tryd.pinned (OpenSpec.ofChange codeBackWrong)

/-- 'isthmuslaw18.CodeBackWords': WHATEVER THE INPUT: true; the input reads as it did. -/
def codeBackWordsSpec : ChangeSpec := { name := "codeBackWords", fn := fun _ => fun
  | [d1, d2, d3] => { results := [.lit (.bool true)], args := [d1, d2, d3] }
  | _ => none }
def codeBackWordsRow : OpenClaim := { program := "ytjjhcbmhdkobkaadoor", sum := "32542236a0c553860e7e0d35d0216aba2aa4f23ba56c5daa308b41e7cf2af873", func := "isthmus/isthmuslaw18.CodeBackWords", spec := "codeBackWords", unfollowed := true, recurses := true, named := ["isthmus/lex.words", "isthmus/code.rules", "isthmus/pack.fields"], apart := false, laid := [("isthmus/pack.fields", laid_isthmus_pack_fields), ("isthmus/lex.words", laid_isthmus_lex_words), ("isthmus/code.rules", laid_isthmus_code_rules)] }
def CodeBackWordsSaid : Prop := codeBackWordsRow.holds Tryd.pinned (OpenSpec.ofChange codeBackWordsSpec)

/-- ITS FALSE NEIGHBOUR: 'it returns false'. Refute it at one input. -/
def codeBackWordsWrong : ChangeSpec := { name := "codeBackWords", fn := fun _ => fun
  | [d1, d2, d3] => { results := [.lit (.bool false)], args := [d1, d2, d3] }
  | _ => none }
def CodeBackWordsWrongFalsely : Prop := codeBackWordsRow.holds Tryd.pinned (OpenSpec.ofChange codeBackWordsWrong)

/- THE SECOND FORM. 'bulk': how many values and letters a reading holds, each counted each time it is reached (what is shared counts as often as it is met; a slice's spare places count too). A statement '..UptoSaid' is the law's where the arguments, and the package variables that the reading takes, are together of bulk at most 1048576: NARROWER than '..Said'. Prove '..Said' where nothing that the law and all that it calls make is longer than what came in: it says more and counts as full. Else prove '..UptoSaid'. A law counts once. -/
mutual
def uptoBulk {H : Type} : DataW H → Nat
  | .lit (.string bytes) => bytes.length + 1
  | .lit _ => 1
  | .nil => 1
  | .ptr d => uptoBulk d + 1
  | .slice elems spare => uptoBulkAll elems + uptoBulkAll spare + 1
  | .agg parts => uptoBulkAll parts + 1
  | .iface _ d => uptoBulk d + 1
  | .map entries => uptoBulkEntries entries + 1
  | .held _ => 1
def uptoBulkAll {H : Type} : List (DataW H) → Nat
  | [] => 0
  | d :: r => uptoBulk d + uptoBulkAll r
def uptoBulkEntries {H : Type} : List (Lit × DataW H) → Nat
  | [] => 0
  | x :: r => uptoBulkEntry x + uptoBulkEntries r
def uptoBulkEntry {H : Type} : Lit × DataW H → Nat
  | (.string bytes, d) => bytes.length + uptoBulk d + 1
  | (_, d) => uptoBulk d + 1
 end
def uptoSmall : (H : Type) → List (DataW H) → Bool := fun _ ds => decide (uptoBulkAll ds ≤ 1048576)
def OpenSpec.upto (s : _root_.Go.ChangeSpec) : _root_.Go.OpenSpec := { _root_.Go.OpenSpec.ofChange s with cond := some uptoSmall }

/-- 'isthmuslaw18.CodeRights', WHERE WHAT IT READS IS OF BULK AT MOST 1048576: true; the input reads as it did. -/
def codeRightsUptoRow : OpenClaim := { program := "ytjjhcbmhdkobkaadoor", sum := "32542236a0c553860e7e0d35d0216aba2aa4f23ba56c5daa308b41e7cf2af873", func := "isthmus/isthmuslaw18.CodeRights", spec := "codeRights", unfollowed := true, recurses := true, named := ["isthmus/lex.words", "isthmus/code.rules", "isthmus/pack.fields"], apart := false, laid := [("isthmus/pack.fields", laid_isthmus_pack_fields), ("isthmus/lex.words", laid_isthmus_lex_words), ("isthmus/code.rules", laid_isthmus_code_rules)], narrowed := true }
def CodeRightsUptoSaid : Prop := codeRightsUptoRow.holds Tryd.pinned (OpenSpec.upto codeRightsSpec)

/-- 'isthmuslaw18.CodeWords', WHERE WHAT IT READS IS OF BULK AT MOST 1048576: true; the input reads as it did. -/
def codeWordsUptoRow : OpenClaim := { program := "ytjjhcbmhdkobkaadoor", sum := "32542236a0c553860e7e0d35d0216aba2aa4f23ba56c5daa308b41e7cf2af873", func := "isthmus/isthmuslaw18.CodeWords", spec := "codeWords", unfollowed := true, recurses := true, named := ["isthmus/lex.words", "isthmus/code.rules", "isthmus/pack.fields"], apart := false, laid := [("isthmus/pack.fields", laid_isthmus_pack_fields), ("isthmus/lex.words", laid_isthmus_lex_words), ("isthmus/code.rules", laid_isthmus_code_rules)], narrowed := true }
def CodeWordsUptoSaid : Prop := codeWordsUptoRow.holds Tryd.pinned (OpenSpec.upto codeWordsSpec)

/-- 'isthmuslaw18.CodeReads', WHERE WHAT IT READS IS OF BULK AT MOST 1048576: true; the input reads as it did. -/
def codeReadsUptoRow : OpenClaim := { program := "ytjjhcbmhdkobkaadoor", sum := "32542236a0c553860e7e0d35d0216aba2aa4f23ba56c5daa308b41e7cf2af873", func := "isthmus/isthmuslaw18.CodeReads", spec := "codeReads", unfollowed := true, recurses := true, named := ["isthmus/lex.words", "isthmus/code.rules", "isthmus/pack.fields"], apart := false, laid := [("isthmus/pack.fields", laid_isthmus_pack_fields), ("isthmus/lex.words", laid_isthmus_lex_words), ("isthmus/code.rules", laid_isthmus_code_rules)], narrowed := true }
def CodeReadsUptoSaid : Prop := codeReadsUptoRow.holds Tryd.pinned (OpenSpec.upto codeReadsSpec)

/-- 'isthmuslaw18.CodeTurned', WHERE WHAT IT READS IS OF BULK AT MOST 1048576: true; the input reads as it did. -/
def codeTurnedUptoRow : OpenClaim := { program := "ytjjhcbmhdkobkaadoor", sum := "32542236a0c553860e7e0d35d0216aba2aa4f23ba56c5daa308b41e7cf2af873", func := "isthmus/isthmuslaw18.CodeTurned", spec := "codeTurned", unfollowed := true, recurses := true, named := ["isthmus/lex.words", "isthmus/code.rules", "isthmus/pack.fields"], apart := false, laid := [("isthmus/pack.fields", laid_isthmus_pack_fields), ("isthmus/lex.words", laid_isthmus_lex_words), ("isthmus/code.rules", laid_isthmus_code_rules)], narrowed := true }
def CodeTurnedUptoSaid : Prop := codeTurnedUptoRow.holds Tryd.pinned (OpenSpec.upto codeTurnedSpec)

/-- 'isthmuslaw18.CodeBack', WHERE WHAT IT READS IS OF BULK AT MOST 1048576: true; the input reads as it did. -/
def codeBackUptoRow : OpenClaim := { program := "ytjjhcbmhdkobkaadoor", sum := "32542236a0c553860e7e0d35d0216aba2aa4f23ba56c5daa308b41e7cf2af873", func := "isthmus/isthmuslaw18.CodeBack", spec := "codeBack", unfollowed := true, recurses := true, named := ["isthmus/lex.words", "isthmus/code.rules", "isthmus/pack.fields"], apart := false, laid := [("isthmus/pack.fields", laid_isthmus_pack_fields), ("isthmus/lex.words", laid_isthmus_lex_words), ("isthmus/code.rules", laid_isthmus_code_rules)], narrowed := true }
def CodeBackUptoSaid : Prop := codeBackUptoRow.holds Tryd.pinned (OpenSpec.upto codeBackSpec)

/-- 'isthmuslaw18.CodeBackWords', WHERE WHAT IT READS IS OF BULK AT MOST 1048576: true; the input reads as it did. -/
def codeBackWordsUptoRow : OpenClaim := { program := "ytjjhcbmhdkobkaadoor", sum := "32542236a0c553860e7e0d35d0216aba2aa4f23ba56c5daa308b41e7cf2af873", func := "isthmus/isthmuslaw18.CodeBackWords", spec := "codeBackWords", unfollowed := true, recurses := true, named := ["isthmus/lex.words", "isthmus/code.rules", "isthmus/pack.fields"], apart := false, laid := [("isthmus/pack.fields", laid_isthmus_pack_fields), ("isthmus/lex.words", laid_isthmus_lex_words), ("isthmus/code.rules", laid_isthmus_code_rules)], narrowed := true }
def CodeBackWordsUptoSaid : Prop := codeBackWordsUptoRow.holds Tryd.pinned (OpenSpec.upto codeBackWordsSpec)

end Rows
end Go.Proofs.YtjjhcbmhdkobkaaDoor
