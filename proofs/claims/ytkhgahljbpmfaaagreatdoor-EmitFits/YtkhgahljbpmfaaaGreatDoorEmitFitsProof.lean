/- The law EmitFits of package isthmuslaw19 holds for every input: it answers true and leaves its arguments as they were (the words and tables of the language, tables and errors of the library as the program lays them). -/
import Derived.Test.YtkhgahljbpmfaaaGreatDoorEmitFitsFac
namespace Go.Proofs.YtkhgahljbpmfaaaGreatDoor.emitFits
open Go.ChangeShapes Go.WideShapes Go.ChangeAt Go.RowKit
open Go.ChangeMaps (open_string shut_string)
set_option linter.unusedVariables false
theorem said:Rows.EmitFitsSaid :=
 OpenClaim.holds_of_cond 6 Tryz.f6 rfl rfl rfl rfl rfl rfl rfl ⟨rfl,rfl,rfl,rfl,rfl⟩ rfl rfl rfl rfl rfl (by kernel_rfl) Tryz.func6 facts
  (of_decide_eq_true (by kernel_rfl)) (by unfold Func.isWrapper;first|(rw[if_pos (by decide +kernel)];kernel_rfl)|(rw[if_neg (by decide +kernel)];exact⟨rfl,rfl⟩))
  (fun os started H enc _ F=>by rw[OpenClaim.pre_eq_preRow];exact lifted os started H enc F)
theorem plain (f:FuncId)(fn:Func)(hf:Tryz.pinned.checked.prog.funcNamed Rows.emitFitsRow.func=some f)(hfn:Tryz.pinned.checked.prog.funcs[f]?=some fn) :
  true=Tryz.pinned.checked.prog.looks []/\∀ (j:Nat) t,fn.params[j]?=some t->Tryz.pinned.checked.prog.wantsStandIn t=false:=by
 obtain rfl:f=6:=Option.some.inj ((show Tryz.prog.funcNamed Rows.emitFitsRow.func=some 6 by kernel_rfl).symm.trans hf) |>.symm
 obtain rfl:fn=Tryz.f6:=(Option.some.inj (Tryz.func6.symm.trans hfn)).symm;refine⟨by kernel_rfl,fun j t ht=>?_⟩;rw[Tryz.params6] at ht;have hm:=Array.mem_of_getElem? ht;obtain rfl:t=37:=by simpa using hm
 exact(show Tryz.prog.wantsStandIn 37=false by kernel_rfl)
end Go.Proofs.YtkhgahljbpmfaaaGreatDoor.emitFits
namespace Go.Proofs.YtkhgahljbpmfaaaGreatDoor
open Go.RowKit
theorem emitFits_holds:Rows.EmitFitsCardSaid :=
 Claim7.holds_tied_plain_at .later [] _ _ _ _ emitFits.said (fun _ h=>by cases h) (by kernel_rfl) (fun _ h=>by cases h) emitFits_row_tie rfl ⟨rfl,rfl⟩ (by kernel_rfl) rfl emitFits.plain (by kernel_rfl)
#print axioms emitFits_holds
end Go.Proofs.YtkhgahljbpmfaaaGreatDoor
