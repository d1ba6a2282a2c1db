/- The law EmitTexts of package isthmuslaw19 holds for every input: it answers true and leaves its arguments as they were (the words and tables of the language, tables and errors of the library as the program lays them). -/
import Derived.Test.YtkhgahljbpmfaaaGreatDoorEmitTextsFac
namespace Go.Proofs.YtkhgahljbpmfaaaGreatDoor.emitTexts
open Go.ChangeShapes Go.WideShapes Go.ChangeAt Go.RowKit
open Go.ChangeMaps (open_string shut_string)
set_option linter.unusedVariables false
theorem said:Rows.EmitTextsSaid :=
 OpenClaim.holds_of_cond 5 Tryz.f5 rfl rfl rfl rfl rfl rfl rfl ⟨rfl,rfl,rfl,rfl,rfl⟩ rfl rfl rfl rfl rfl (by kernel_rfl) Tryz.func5 facts
  (of_decide_eq_true (by kernel_rfl)) (by unfold Func.isWrapper;first|(rw[if_pos (by decide +kernel)];kernel_rfl)|(rw[if_neg (by decide +kernel)];exact⟨rfl,rfl⟩))
  (λos started H enc _ F=>by rw[OpenClaim.pre_eq_preRow];exact lifted os started H enc F)
theorem plain (f:FuncId)(fn:Func)(hf:Tryz.pinned.checked.prog.funcNamed Rows.emitTextsRow.func=some f)(hfn:Tryz.pinned.checked.prog.funcs[f]?=some fn) :
  true=Tryz.pinned.checked.prog.looks []/\∀ (j:Nat) t,fn.params[j]?=some t->Tryz.pinned.checked.prog.wantsStandIn t=false:=by
 obtain rfl:f=5:=Option.some.inj ((show Tryz.prog.funcNamed Rows.emitTextsRow.func=some 5 by kernel_rfl).symm.trans hf) |>.symm
 obtain rfl:fn=Tryz.f5:=(Option.some.inj (Tryz.func5.symm.trans hfn)).symm;refine⟨by kernel_rfl,λj t ht=>?_⟩;rw[Tryz.params5] at ht;have hm:=Array.mem_of_getElem? ht;obtain rfl:t=9:=by simpa using hm
 exact(show Tryz.prog.wantsStandIn 9=false by kernel_rfl)
end Go.Proofs.YtkhgahljbpmfaaaGreatDoor.emitTexts
namespace Go.Proofs.YtkhgahljbpmfaaaGreatDoor
open Go.RowKit
theorem emitTexts_holds:Rows.EmitTextsCardSaid :=
 Claim7.holds_tied_plain_at .later [] _ _ _ _ emitTexts.said (λ_ h=>by cases h) (by kernel_rfl) (λ_ h=>by cases h) emitTexts_row_tie rfl ⟨rfl,rfl⟩ (by kernel_rfl) rfl emitTexts.plain (by kernel_rfl)
#print axioms emitTexts_holds
end Go.Proofs.YtkhgahljbpmfaaaGreatDoor
