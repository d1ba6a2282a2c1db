/- The law GuardLooks of package isthmuslaw20 holds for every input: it answers true and leaves its arguments as they were (the tables of the packages pack, lex, code and math/bits as the program lays them). -/
import Derived.Test.YtpdfdhkdfkhfkaaDoorGbN
import Derived.Test.YtpdfdhkdfkhfkaaDoorCards
import Derived.Test.YtpdfdhkdfkhfkaaDoorTie
namespace Go.Proofs.YtpdfdhkdfkhfkaaDoor.guardLooks
open Go.ChangeShapes Go.WideShapes Go.ChangeAt Go.RowKit
open Go.ChangeMaps (open_string shut_string)
set_option linter.unusedVariables false
set_option maxRecDepth 100000 in
set_option maxHeartbeats 1000000 in
theorem contract (H:Type)(enc:TypeId × Value->H)(W:World)(base:Nat)(args:Array Value)(ds gs:List (DataW H))(before:List MemPlace)
  (hval:∀ (j:Nat) t v,Tryd.f3.params[j]?=some t->args[j]?=some v->Value.okWide Tryd.prog W .any base t v)
  (hW:DataW.Whole enc Tryd.prog Tryd.f3.params.toList Rows.guardLooksSpec.vars false W args.toList ds gs before)
  (hsz:(DataW.weightsEach Tryd.prog (Tryd.f3.params.toList++(OpenSpec.ofChange Rows.guardLooksSpec).bare.plain.varTypes Tryd.prog) (ds++gs)).all (·<=reachBytes)=true) (hL:laidMetH Tryd.prog Rows.guardLooksRow.laid W) :
  Calls Tryd.prog 3 args W fun e W'=>∃v,e=.returned v/\Rows.guardLooksSpec.post enc Tryd.prog Tryd.f3 false true false false W args v W':=by
 have hW':=hW;obtain⟨p,q,hA0,hV,rfl,hfz,hnd⟩:=hW;have hA:DataW.TrodAll enc Tryd.prog W 0 (fun _=>true) true Tryd.f3.params.toList args.toList ds p:=hA0;rw[Tryd.params3] at hA hval hsz;obtain⟨v0,vs0,d0,ds0,p0,q0,hargs,rfl,rfl,h0,r0⟩:=trodAll_cons hA;obtain⟨rfl,rfl,rfl⟩:=trodAll_nil r0;obtain rfl:args=#[v0]:=by cases args;simp_all
 obtain⟨rfl,rfl⟩:=trodVars_none hV;clear hA0;simp only[List.append_nil] at hW';have hlt0:∀ x ∈ p0,x.block<W.heap.size:=fun x hx=>by simpa using hW'.lt x (by simp[hx])
 obtain⟨pl0,cd0,w00,w10,w20,w30,rfl,CW0,rfl,g00,g10,g20,g30⟩:=open_code h0 hlt0;have hwt:CdLen cd0:=code_lens hsz g00 g10 g20 g30;refine(guardLooks_walk pl0 cd0 W (fx_of_laid hL) (tz_of_laidG hL) CW0 hwt).mono fun e W' ⟨he,hnx⟩=>?_;subst he;exact⟨_,rfl,_,_,_,[],(p0++[]),[],hW',trodAll_cons_mk (shut_bool Tryd.underlying4 _) trodAll_mk0,(trodAll_cons_mk (Below.trod laidOut (by kernel_rfl) (of_decide_eq_true (by kernel_rfl)) h0 hnx hlt0) trodAll_mk0),rfl,hnx.frame _,fun h=>by cases h⟩
theorem laid_met (os:Os):laidMet Tryd.prog Rows.guardLooksRow.laid ((laidWorld Tryd.prog os).forCall (fun _ _=>0) ⟨#[],#[.agg #[.slice none 0 0,.slice none 0 0,.slice none 0 0,.slice none 0 0]],[]⟩).memory :=
 laidMet_of_run' 8 (by kernel_rfl) (by kernel_rfl)
theorem reads (os:Os){H:Type}(enc:TypeId × Value->H):∃places,DataW.whole enc Tryd.prog ((laidWorld Tryd.prog os).forCall (fun _ _=>0) ⟨#[],#[.agg #[.slice none 0 0,.slice none 0 0,.slice none 0 0,.slice none 0 0]],[]⟩).memory Tryd.f3.params.toList Rows.guardLooksSpec.vars false (#[.agg #[.slice none 0 0,.slice none 0 0,.slice none 0 0,.slice none 0 0]]:Array Value).toList 8=some ([.agg [.nil,.nil,.nil,.nil]],[],places) :=
 ⟨[],by kernel_rfl⟩
set_option maxRecDepth 100000 in
theorem lifted (os:Os)(started:os.Started)(H:Type)(enc:TypeId × Value->H)(F:Stop.Interp) :
  ReturnsInHanded {} Tryd.checked os 3 .any ((OpenSpec.ofChange Rows.guardLooksSpec).preRow enc Tryd.prog Tryd.f3 Rows.guardLooksRow.domain false Rows.guardLooksRow.laid) (((OpenSpec.ofChange Rows.guardLooksSpec).at F).post enc Tryd.prog Tryd.f3 false true false false):=by
 obtain⟨places,hx⟩:=reads os enc;refine returnsInHanded_of_row (C:=Tryd.checked) (s:=OpenSpec.ofChange Rows.guardLooksSpec) ownK started (by kernel_rfl) Tryd.func3
  (witness_row_at (enc:=enc) (C:=Tryd.checked) false (laidWorld Tryd.prog os) #[.agg #[.slice none 0 0,.slice none 0 0,.slice none 0 0,.slice none 0 0]] rfl (by kernel_rfl) (by kernel_rfl) (by kernel_rfl)
   (OpenSpec.preRow_of_cond 8 hx (by kernel_rfl) (fun k hk=>by cases hk) (by kernel_rfl) (laid_met os))) ?_
 intro W base args ds gs before hval hW _ _ hsz hL _ _;exact contract H enc W base args ds gs before hval hW hsz hL
theorem said:Rows.GuardLooksSaid :=
 OpenClaim.holds_of_cond 3 Tryd.f3 rfl rfl rfl rfl rfl rfl rfl ⟨rfl,rfl,rfl,rfl,rfl⟩ rfl rfl rfl rfl rfl (by kernel_rfl) Tryd.func3 (by kernel_rfl)
  (of_decide_eq_true (by kernel_rfl)) (by unfold Func.isWrapper;first|(rw[if_pos (by decide +kernel)];kernel_rfl)|(rw[if_neg (by decide +kernel)];exact⟨rfl,rfl⟩))
  (fun os started H enc _ F=>by rw[OpenClaim.pre_eq_preRow];exact lifted os started H enc F)
theorem plain (f:FuncId)(fn:Func)(hf:Tryd.pinned.checked.prog.funcNamed Rows.guardLooksRow.func=some f)(hfn:Tryd.pinned.checked.prog.funcs[f]?=some fn) :
  false=Tryd.pinned.checked.prog.looks []/\∀ (j:Nat) t,fn.params[j]?=some t->Tryd.pinned.checked.prog.wantsStandIn t=false:=by
 obtain rfl:f=3:=Option.some.inj ((show Tryd.prog.funcNamed Rows.guardLooksRow.func=some 3 by kernel_rfl).symm.trans hf) |>.symm
 obtain rfl:fn=Tryd.f3:=(Option.some.inj (Tryd.func3.symm.trans hfn)).symm;refine⟨by kernel_rfl,fun j t ht=>?_⟩;rw[Tryd.params3] at ht;have hm:=Array.mem_of_getElem? ht;obtain rfl:t=26:=by simpa using hm
 exact(show Tryd.prog.wantsStandIn 26=false by kernel_rfl)
end Go.Proofs.YtpdfdhkdfkhfkaaDoor.guardLooks
namespace Go.Proofs.YtpdfdhkdfkhfkaaDoor
open Go.RowKit
theorem guardLooks_holds:Rows.GuardLooksCardSaid :=
 Claim7.holds_tied_plain_at .later [] _ _ _ _ guardLooks.said (fun _ h=>by cases h) (by kernel_rfl) (fun _ h=>by cases h) guardLooks_row_tie rfl ⟨rfl,rfl⟩ (by kernel_rfl) rfl guardLooks.plain (by kernel_rfl)
#print axioms guardLooks_holds
end Go.Proofs.YtpdfdhkdfkhfkaaDoor
