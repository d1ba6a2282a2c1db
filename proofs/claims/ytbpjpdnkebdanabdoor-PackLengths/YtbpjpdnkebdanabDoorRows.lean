/-
  NARROWER THAN 'FOR EVERY INPUT', by the rows' own cells (each row's printed sentence says how): PackApart: laid · PackLengths: laid · PackApartTexts: laid.
  DERIVED. THE GIVEN ROWS OF THIS SEAT. 3 by the template 'for every input the law returns true; each argument reads behind the call as it read before'; 0 by the template 'total and deterministic' (their statements: YtbpjpdnkebdanabDoorTotals.lean).
  GIVEN WITH THE SEED: the statements are not yours to turn. If you find one false, say at which input.
  Laid BY PROGRAM, IN A SANDBOX (cutbox-rows.mjs): the forced cells as the released guide's own fill.sh prints them over the translation bba0afb1040e814d… (all of the seat's roots in one cut). By AI agents, Wed Nov 11 2026. No macro, syntax, notation, axiom, sorry.
-/
import Derived.Test.YtbpjpdnkebdanabDoorChecked
import GoSem.Claim
import GoSem.ClaimJoined
import GoSem.ClaimMapViews
import Derived.JoinedTies
import Derived.KernelRfl
namespace Go.Proofs.YtbpjpdnkebdanabDoor
/- THE CELL 'sum', in the pinned program and in every row, IS THE sha256 OF THE DUMP (.gsa) THAT YtbpjpdnkebdanabDoorProg.lean LOADS. Nothing in Lean hashes anything: it is a label: what it is worth is what the hold of that sum in a sandbox is worth. -/
noncomputable def Tryd.pinned : Pinned := { name := "ytbpjpdnkebdanabdoor", sum := "bba0afb1040e814de11e3e827134e29e35aaf5e3218f209cedc503996ff81a91", checked := Tryd.checked }
namespace Rows
def none {H : Type} : Left H := { results := [], args := [] }

/- WHAT THE LISTED PACKAGE-LEVEL VARIABLES READ AS WHEN THE CALL BEGINS. Each datum BY PROGRAM (the guide's laid-datum.mjs) off the statement by which the dump's own 'gosem.cut.vars' lays the variable. In a bare row this is a premise. The card (YtbpjpdnkebdanabDoorCards.lean) ties it to the program's text. -/
def laid_isthmus_pack_fields {H : Type} : DataW H := .agg [.agg [.lit (.int .u64 56), .lit (.int .u64 255)], .agg [.lit (.int .u64 28), .lit (.int .u64 268435455)], .agg [.lit (.int .u64 0), .lit (.int .u64 268435455)]]

/-- 'isthmuslaw01.PackApart': WHATEVER THE INPUT: true; the input reads as it did. -/
def packApartSpec : ChangeSpec := { name := "packApart", fn := fun _ => fun
  | [d1, d2, d3, d4] => { results := [.lit (.bool true)], args := [d1, d2, d3, d4] }
  | _ => none }
def packApartRow : OpenClaim := { program := "ytbpjpdnkebdanabdoor", sum := "bba0afb1040e814de11e3e827134e29e35aaf5e3218f209cedc503996ff81a91", func := "isthmus/isthmuslaw01.PackApart", spec := "packApart", named := ["isthmus/pack.fields"], apart := false, laid := [("isthmus/pack.fields", laid_isthmus_pack_fields)] }
def PackApartSaid : Prop := packApartRow.holds Tryd.pinned (OpenSpec.ofChange packApartSpec)

/-- ITS FALSE NEIGHBOUR: 'it returns false'. Refute it at one input. -/
def packApartWrong : ChangeSpec := { name := "packApart", fn := fun _ => fun
  | [d1, d2, d3, d4] => { results := [.lit (.bool false)], args := [d1, d2, d3, d4] }
  | _ => none }
def PackApartWrongFalsely : Prop := packApartRow.holds Tryd.pinned (OpenSpec.ofChange packApartWrong)

/-- 'isthmuslaw01.PackLengths': WHATEVER THE INPUT: true; the input reads as it did. -/
def packLengthsSpec : ChangeSpec := { name := "packLengths", fn := fun _ => fun
  | [d1, d2] => { results := [.lit (.bool true)], args := [d1, d2] }
  | _ => none }
def packLengthsRow : OpenClaim := { program := "ytbpjpdnkebdanabdoor", sum := "bba0afb1040e814de11e3e827134e29e35aaf5e3218f209cedc503996ff81a91", func := "isthmus/isthmuslaw01.PackLengths", spec := "packLengths", named := ["isthmus/pack.fields"], apart := false, laid := [("isthmus/pack.fields", laid_isthmus_pack_fields)] }
def PackLengthsSaid : Prop := packLengthsRow.holds Tryd.pinned (OpenSpec.ofChange packLengthsSpec)

/-- ITS FALSE NEIGHBOUR: 'it returns false'. Refute it at one input. -/
def packLengthsWrong : ChangeSpec := { name := "packLengths", fn := fun _ => fun
  | [d1, d2] => { results := [.lit (.bool false)], args := [d1, d2] }
  | _ => none }
def PackLengthsWrongFalsely : Prop := packLengthsRow.holds Tryd.pinned (OpenSpec.ofChange packLengthsWrong)

/-- 'isthmuslaw01.PackApartTexts': WHATEVER THE INPUT: true; the input reads as it did. -/
def packApartTextsSpec : ChangeSpec := { name := "packApartTexts", fn := fun _ => fun
  | [d1, d2] => { results := [.lit (.bool true)], args := [d1, d2] }
  | _ => none }
def packApartTextsRow : OpenClaim := { program := "ytbpjpdnkebdanabdoor", sum := "bba0afb1040e814de11e3e827134e29e35aaf5e3218f209cedc503996ff81a91", func := "isthmus/isthmuslaw01.PackApartTexts", spec := "packApartTexts", named := ["isthmus/pack.fields"], apart := false, laid := [("isthmus/pack.fields", laid_isthmus_pack_fields)] }
def PackApartTextsSaid : Prop := packApartTextsRow.holds Tryd.pinned (OpenSpec.ofChange packApartTextsSpec)

/-- ITS FALSE NEIGHBOUR: 'it returns false'. Refute it at one input. -/
def packApartTextsWrong : ChangeSpec := { name := "packApartTexts", fn := fun _ => fun
  | [d1, d2] => { results := [.lit (.bool false)], args := [d1, d2] }
  | _ => none }
def PackApartTextsWrongFalsely : Prop := packApartTextsRow.holds Tryd.pinned (OpenSpec.ofChange packApartTextsWrong)

/- THE SECOND FORM. 'bulk': how many values and letters a reading holds, each counted each time it is reached (what is shared counts as often as it is met; a slice's spare places count too). A statement '..UptoSaid' is the law's where the arguments, and the package variables that the reading takes, are together of bulk at most 1048576: NARROWER than '..Said'. Prove '..Said' where nothing that the law and all that it calls make is longer than what came in: it says more and counts as full. Else prove '..UptoSaid'. A law counts once. -/
mutual
def uptoBulk {H : Type} : DataW H → Nat
  | .lit (.string bytes) => bytes.length + 1
  | .lit _ => 1
  | .nil => 1
  | .ptr d => uptoBulk d + 1
  | .slice elems spare => uptoBulkAll elems + uptoBulkAll spare + 1
  | .agg parts => uptoBulkAll parts + 1
  | .iface _ d => uptoBulk d + 1
  | .map entries => uptoBulkEntries entries + 1
  | .held _ => 1
def uptoBulkAll {H : Type} : List (DataW H) → Nat
  | [] => 0
  | d :: r => uptoBulk d + uptoBulkAll r
def uptoBulkEntries {H : Type} : List (Lit × DataW H) → Nat
  | [] => 0
  | x :: r => uptoBulkEntry x + uptoBulkEntries r
def uptoBulkEntry {H : Type} : Lit × DataW H → Nat
  | (.string bytes, d) => bytes.length + uptoBulk d + 1
  | (_, d) => uptoBulk d + 1
 end
def uptoSmall : (H : Type) → List (DataW H) → Bool := fun _ ds => decide (uptoBulkAll ds ≤ 1048576)
def OpenSpec.upto (s : _root_.Go.ChangeSpec) : _root_.Go.OpenSpec := { _root_.Go.OpenSpec.ofChange s with cond := some uptoSmall }

/-- 'isthmuslaw01.PackApart', WHERE WHAT IT READS IS OF BULK AT MOST 1048576: true; the input reads as it did. -/
def packApartUptoRow : OpenClaim := { program := "ytbpjpdnkebdanabdoor", sum := "bba0afb1040e814de11e3e827134e29e35aaf5e3218f209cedc503996ff81a91", func := "isthmus/isthmuslaw01.PackApart", spec := "packApart", named := ["isthmus/pack.fields"], apart := false, laid := [("isthmus/pack.fields", laid_isthmus_pack_fields)], narrowed := true }
def PackApartUptoSaid : Prop := packApartUptoRow.holds Tryd.pinned (OpenSpec.upto packApartSpec)

/-- 'isthmuslaw01.PackLengths', WHERE WHAT IT READS IS OF BULK AT MOST 1048576: true; the input reads as it did. -/
def packLengthsUptoRow : OpenClaim := { program := "ytbpjpdnkebdanabdoor", sum := "bba0afb1040e814de11e3e827134e29e35aaf5e3218f209cedc503996ff81a91", func := "isthmus/isthmuslaw01.PackLengths", spec := "packLengths", named := ["isthmus/pack.fields"], apart := false, laid := [("isthmus/pack.fields", laid_isthmus_pack_fields)], narrowed := true }
def PackLengthsUptoSaid : Prop := packLengthsUptoRow.holds Tryd.pinned (OpenSpec.upto packLengthsSpec)

/-- 'isthmuslaw01.PackApartTexts', WHERE WHAT IT READS IS OF BULK AT MOST 1048576: true; the input reads as it did. -/
def packApartTextsUptoRow : OpenClaim := { program := "ytbpjpdnkebdanabdoor", sum := "bba0afb1040e814de11e3e827134e29e35aaf5e3218f209cedc503996ff81a91", func := "isthmus/isthmuslaw01.PackApartTexts", spec := "packApartTexts", named := ["isthmus/pack.fields"], apart := false, laid := [("isthmus/pack.fields", laid_isthmus_pack_fields)], narrowed := true }
def PackApartTextsUptoSaid : Prop := packApartTextsUptoRow.holds Tryd.pinned (OpenSpec.upto packApartTextsSpec)

end Rows
end Go.Proofs.YtbpjpdnkebdanabDoor
