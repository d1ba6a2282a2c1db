/-
  DERIVED. GIVEN WITH THE SEED: THE CARDS: each row of YtaihhnlfcndecaaGreatDoorRows.lean that lists a variable, with what it lists TIED to the program's text (the seventh form; the later family's looks); each row that meets fmt, with fmt's text TOLD by the authors' own Lean function (tested against real Go, not proved from fmt's source: count such statements apart). THE CARD IS WHAT COUNTS. Prove the row's statement (the work); the ties are given (YtaihhnlfcndecaaGreatDoorTie.lean); close each card by the builder's one call (the guide's Derived/Test/ToyasCard.lean, 'card_holds'). Laid BY PROGRAM, IN A SANDBOX (cutbox-door.mjs). By AI agents, Wed Nov 11 2026. No macro, syntax, notation, axiom, sorry.
-/
import Derived.Test.YtaihhnlfcndecaaGreatDoorRows
import GoSem.ClaimSeven
namespace Go.Proofs.YtaihhnlfcndecaaGreatDoor
namespace Rows

/-- THE TIED CARD OF 'isthmuslaw12.SyntaxParses'. -/
def syntaxParsesCard : Claim7 := { stood := { row := syntaxParsesRow, standIns := [], harness := (true, "dd6ec2f727c1ca985b9aa1b15c47429f15ce190c9735387b783b1d8357824dfc"), looks := true }, kinds := [], alts := [], laidByText := true, laidKinds := [.data, .data, .data, .sentinel, .sentinel, .data, .data, .data, .data], laidTests := true, laidLooks := .later }
def SyntaxParsesCardSaid : Prop := Claim7.holds Tryz.pinned (.plain (OpenSpec.ofChange syntaxParsesSpec)) syntaxParsesCard

/-- THE TIED CARD OF 'isthmuslaw15.FoldPlans'. -/
def foldPlansCard : Claim7 := { stood := { row := foldPlansRow, standIns := [], harness := (true, "dd6ec2f727c1ca985b9aa1b15c47429f15ce190c9735387b783b1d8357824dfc"), looks := true }, kinds := [], alts := [], laidByText := true, laidKinds := [.data], laidTests := true, laidLooks := .later }
def FoldPlansCardSaid : Prop := Claim7.holds Tryz.pinned (.plain (OpenSpec.ofChange foldPlansSpec)) foldPlansCard

/-- THE TIED CARD OF 'isthmuslaw15.FoldTexts'. -/
def foldTextsCard : Claim7 := { stood := { row := foldTextsRow, standIns := [], harness := (true, "dd6ec2f727c1ca985b9aa1b15c47429f15ce190c9735387b783b1d8357824dfc"), looks := true }, kinds := [], alts := [], laidByText := true, laidKinds := [.data], laidTests := true, laidLooks := .later }
def FoldTextsCardSaid : Prop := Claim7.holds Tryz.pinned (.plain (OpenSpec.ofChange foldTextsSpec)) foldTextsCard

/-- THE TIED CARD OF 'isthmuslaw16.HoistPlans'. -/
def hoistPlansCard : Claim7 := { stood := { row := hoistPlansRow, standIns := [], harness := (true, "dd6ec2f727c1ca985b9aa1b15c47429f15ce190c9735387b783b1d8357824dfc"), looks := true }, kinds := [], alts := [], laidByText := true, laidKinds := [.data], laidTests := true, laidLooks := .later }
def HoistPlansCardSaid : Prop := Claim7.holds Tryz.pinned (.plain (OpenSpec.ofChange hoistPlansSpec)) hoistPlansCard

/-- THE TIED CARD OF 'isthmuslaw16.HoistTexts'. -/
def hoistTextsCard : Claim7 := { stood := { row := hoistTextsRow, standIns := [], harness := (true, "dd6ec2f727c1ca985b9aa1b15c47429f15ce190c9735387b783b1d8357824dfc"), looks := true }, kinds := [], alts := [], laidByText := true, laidKinds := [.data], laidTests := true, laidLooks := .later }
def HoistTextsCardSaid : Prop := Claim7.holds Tryz.pinned (.plain (OpenSpec.ofChange hoistTextsSpec)) hoistTextsCard

/-- THE TIED CARD OF 'isthmuslaw16.HoistLeaves'. -/
def hoistLeavesCard : Claim7 := { stood := { row := hoistLeavesRow, standIns := [], harness := (true, "dd6ec2f727c1ca985b9aa1b15c47429f15ce190c9735387b783b1d8357824dfc"), looks := true }, kinds := [], alts := [], laidByText := true, laidKinds := [.data], laidTests := true, laidLooks := .later }
def HoistLeavesCardSaid : Prop := Claim7.holds Tryz.pinned (.plain (OpenSpec.ofChange hoistLeavesSpec)) hoistLeavesCard

/-- THE SECOND FORM's CARD OF 'isthmuslaw12.SyntaxParses'. -/
def syntaxParsesUptoCard : Claim7 := { stood := { row := syntaxParsesUptoRow, standIns := [], harness := (true, "dd6ec2f727c1ca985b9aa1b15c47429f15ce190c9735387b783b1d8357824dfc"), looks := true }, kinds := [], alts := [], laidByText := true, laidKinds := [.data, .data, .data, .sentinel, .sentinel, .data, .data, .data, .data], laidTests := true, laidLooks := .later }
def SyntaxParsesUptoCardSaid : Prop := Claim7.holds Tryz.pinned (.plain (OpenSpec.upto syntaxParsesSpec)) syntaxParsesUptoCard

/-- THE SECOND FORM's CARD OF 'isthmuslaw15.FoldPlans'. -/
def foldPlansUptoCard : Claim7 := { stood := { row := foldPlansUptoRow, standIns := [], harness := (true, "dd6ec2f727c1ca985b9aa1b15c47429f15ce190c9735387b783b1d8357824dfc"), looks := true }, kinds := [], alts := [], laidByText := true, laidKinds := [.data], laidTests := true, laidLooks := .later }
def FoldPlansUptoCardSaid : Prop := Claim7.holds Tryz.pinned (.plain (OpenSpec.upto foldPlansSpec)) foldPlansUptoCard

/-- THE SECOND FORM's CARD OF 'isthmuslaw15.FoldTexts'. -/
def foldTextsUptoCard : Claim7 := { stood := { row := foldTextsUptoRow, standIns := [], harness := (true, "dd6ec2f727c1ca985b9aa1b15c47429f15ce190c9735387b783b1d8357824dfc"), looks := true }, kinds := [], alts := [], laidByText := true, laidKinds := [.data], laidTests := true, laidLooks := .later }
def FoldTextsUptoCardSaid : Prop := Claim7.holds Tryz.pinned (.plain (OpenSpec.upto foldTextsSpec)) foldTextsUptoCard

/-- THE SECOND FORM's CARD OF 'isthmuslaw16.HoistPlans'. -/
def hoistPlansUptoCard : Claim7 := { stood := { row := hoistPlansUptoRow, standIns := [], harness := (true, "dd6ec2f727c1ca985b9aa1b15c47429f15ce190c9735387b783b1d8357824dfc"), looks := true }, kinds := [], alts := [], laidByText := true, laidKinds := [.data], laidTests := true, laidLooks := .later }
def HoistPlansUptoCardSaid : Prop := Claim7.holds Tryz.pinned (.plain (OpenSpec.upto hoistPlansSpec)) hoistPlansUptoCard

/-- THE SECOND FORM's CARD OF 'isthmuslaw16.HoistTexts'. -/
def hoistTextsUptoCard : Claim7 := { stood := { row := hoistTextsUptoRow, standIns := [], harness := (true, "dd6ec2f727c1ca985b9aa1b15c47429f15ce190c9735387b783b1d8357824dfc"), looks := true }, kinds := [], alts := [], laidByText := true, laidKinds := [.data], laidTests := true, laidLooks := .later }
def HoistTextsUptoCardSaid : Prop := Claim7.holds Tryz.pinned (.plain (OpenSpec.upto hoistTextsSpec)) hoistTextsUptoCard

/-- THE SECOND FORM's CARD OF 'isthmuslaw16.HoistLeaves'. -/
def hoistLeavesUptoCard : Claim7 := { stood := { row := hoistLeavesUptoRow, standIns := [], harness := (true, "dd6ec2f727c1ca985b9aa1b15c47429f15ce190c9735387b783b1d8357824dfc"), looks := true }, kinds := [], alts := [], laidByText := true, laidKinds := [.data], laidTests := true, laidLooks := .later }
def HoistLeavesUptoCardSaid : Prop := Claim7.holds Tryz.pinned (.plain (OpenSpec.upto hoistLeavesSpec)) hoistLeavesUptoCard
end Rows
end Go.Proofs.YtaihhnlfcndecaaGreatDoor
