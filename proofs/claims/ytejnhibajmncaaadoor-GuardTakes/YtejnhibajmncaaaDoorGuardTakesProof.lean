/- The law GuardTakes of package isthmuslaw20 holds for every input: it answers true and leaves its argument as it was (the tables of the packages pack, lex, code and math/bits as the program lays them). -/
import Derived.Test.YtejnhibajmncaaaDoorGuardTakesFac
namespace Go.Proofs.YtejnhibajmncaaaDoor.guardTakes
open Go.ChangeShapes Go.WideShapes Go.ChangeAt Go.RowKit
open Go.ChangeMaps (open_string shut_string)
set_option linter.unusedVariables false
theorem said:Rows.GuardTakesSaid :=
 OpenClaim.holds_of_cond 3 Tryd.f3 rfl rfl rfl rfl rfl rfl rfl ⟨rfl,rfl,rfl,rfl,rfl⟩ rfl rfl rfl rfl rfl (by kernel_rfl) Tryd.func3 facts
  (of_decide_eq_true (by kernel_rfl)) (by unfold Func.isWrapper;first|(rw[if_pos (by decide +kernel)];kernel_rfl)|(rw[if_neg (by decide +kernel)];exact⟨rfl,rfl⟩))
  (fun os started H enc _ F=>by rw[OpenClaim.pre_eq_preRow];exact lifted os started H enc F)
theorem plain (f:FuncId)(fn:Func)(hf:Tryd.pinned.checked.prog.funcNamed Rows.guardTakesRow.func=some f)(hfn:Tryd.pinned.checked.prog.funcs[f]?=some fn) :
  false=Tryd.pinned.checked.prog.looks []/\∀ (j:Nat) t,fn.params[j]?=some t->Tryd.pinned.checked.prog.wantsStandIn t=false:=by
 obtain rfl:f=3:=Option.some.inj ((show Tryd.prog.funcNamed Rows.guardTakesRow.func=some 3 by kernel_rfl).symm.trans hf) |>.symm
 obtain rfl:fn=Tryd.f3:=(Option.some.inj (Tryd.func3.symm.trans hfn)).symm;refine⟨by kernel_rfl,fun j t ht=>?_⟩;rw[Tryd.params3] at ht;have hm:=Array.mem_of_getElem? ht;obtain rfl:t=27:=by simpa using hm
 exact(show Tryd.prog.wantsStandIn 27=false by kernel_rfl)
end Go.Proofs.YtejnhibajmncaaaDoor.guardTakes
namespace Go.Proofs.YtejnhibajmncaaaDoor
open Go.RowKit
theorem guardTakes_holds:Rows.GuardTakesCardSaid :=
 Claim7.holds_tied_plain_at .later [] _ _ _ _ guardTakes.said (fun _ h=>by cases h) (by kernel_rfl) (fun _ h=>by cases h) guardTakes_row_tie rfl ⟨rfl,rfl⟩ (by kernel_rfl) rfl guardTakes.plain (by kernel_rfl)
#print axioms guardTakes_holds
end Go.Proofs.YtejnhibajmncaaaDoor
