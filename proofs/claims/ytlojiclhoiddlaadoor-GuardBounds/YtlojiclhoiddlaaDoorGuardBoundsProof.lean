/- The law GuardBounds of package isthmuslaw20 holds for every input: it answers true and leaves its arguments as they were (the tables of the packages pack, lex, code and math/bits as the program lays them). -/
import Derived.Test.YtlojiclhoiddlaaDoorRowK20
import Derived.Test.YtlojiclhoiddlaaDoorCards
import Derived.Test.YtlojiclhoiddlaaDoorTie
import Derived.Deep.Slices
import Derived.SliceStrings
namespace Go.Proofs.YtlojiclhoiddlaaDoor.guardBounds
open Go.ChangeShapes Go.WideShapes Go.ChangeAt Go.RowKit
open Go.ChangeMaps (open_string shut_string)
set_option linter.unusedVariables false
set_option maxRecDepth 100000 in
set_option maxHeartbeats 1000000 in
theorem contract (H:Type)(enc:TypeId × Value->H)(W:World)(base:Nat)(args:Array Value)(ds gs:List (DataW H))(before:List MemPlace)
  (hval:∀ (j:Nat) t v,Tryd.f5.params[j]?=some t->args[j]?=some v->Value.okWide Tryd.prog W .any base t v)
  (hW:DataW.Whole enc Tryd.prog Tryd.f5.params.toList Rows.guardBoundsSpec.vars false W args.toList ds gs before)
  (hsz:(DataW.weightsEach Tryd.prog (Tryd.f5.params.toList++(OpenSpec.ofChange Rows.guardBoundsSpec).bare.plain.varTypes Tryd.prog) (ds++gs)).all (·<=reachBytes)=true) (hL:laidMetH Tryd.prog Rows.guardBoundsRow.laid W) :
  Calls Tryd.prog 5 args W fun e W'=>∃v,e=.returned v/\Rows.guardBoundsSpec.post enc Tryd.prog Tryd.f5 false true false false W args v W':=by
 have hW':=hW;obtain⟨p,q,hA0,hV,rfl,hfz,hnd⟩:=hW;have hA:DataW.TrodAll enc Tryd.prog W 0 (fun _=>true) true Tryd.f5.params.toList args.toList ds p:=hA0;rw[Tryd.params5] at hA hval hsz;obtain⟨v0,vs0,d0,ds0,p0,q0,hargs,rfl,rfl,h0,r0⟩:=trodAll_cons hA;obtain⟨v1,vs1,d1,ds1,p1,q1,rfl,rfl,rfl,h1,r1⟩:=trodAll_cons r0;obtain⟨v2,vs2,d2,ds2,p2,q2,rfl,rfl,rfl,h2,r2⟩:=trodAll_cons r1;obtain⟨rfl,rfl,rfl⟩:=trodAll_nil r2;obtain rfl:args=#[v0,v1,v2]:=by cases args;simp_all
 obtain⟨rfl,rfl⟩:=trodVars_none hV;obtain⟨c0,rfl,rfl,rfl,wc0⟩:=open_int Tryd.underlying3 (hval 0 3 v0 rfl rfl) h0;obtain⟨c1,rfl,rfl,rfl,wc1⟩:=open_int Tryd.underlying3 (hval 1 3 v1 rfl rfl) h1;obtain⟨c2,rfl,rfl,rfl,wc2⟩:=open_int Tryd.underlying3 (hval 2 3 v2 rfl rfl) h2;clear hA0;simp only[List.append_nil] at hW';refine(guardBounds_walk c0 c1 c2 W (fx_of_laid hL) (tz_of_laidG hL) (bd_i64 wc0) (bd_i64 wc1) (bd_i64 wc2)).mono fun e W' ⟨he,hnx⟩=>?_;subst he;exact⟨_,rfl,_,_,_,[],([]++([]++([]++[]))),[],hW',trodAll_cons_mk (shut_bool Tryd.underlying4 _) trodAll_mk0,(trodAll_cons_mk (shut_int Tryd.underlying3 wc0) (trodAll_cons_mk (shut_int Tryd.underlying3 wc1) (trodAll_cons_mk (shut_int Tryd.underlying3 wc2) trodAll_mk0))),rfl,hnx.frame _,fun h=>by cases h⟩
theorem laid_met (os:Os):laidMet Tryd.prog Rows.guardBoundsRow.laid ((laidWorld Tryd.prog os).forCall (fun _ _=>0) ⟨#[],#[.int .i64 0,.int .i64 0,.int .i64 0],[]⟩).memory :=
 laidMet_of_run' 8 (by kernel_rfl) (by kernel_rfl)
theorem reads (os:Os){H:Type}(enc:TypeId × Value->H):∃places,DataW.whole enc Tryd.prog ((laidWorld Tryd.prog os).forCall (fun _ _=>0) ⟨#[],#[.int .i64 0,.int .i64 0,.int .i64 0],[]⟩).memory Tryd.f5.params.toList Rows.guardBoundsSpec.vars false (#[.int .i64 0,.int .i64 0,.int .i64 0]:Array Value).toList 8=some ([.lit (.int .i64 0),.lit (.int .i64 0),.lit (.int .i64 0)],[],places) :=
 ⟨[],by kernel_rfl⟩
set_option maxRecDepth 100000 in
theorem lifted (os:Os)(started:os.Started)(H:Type)(enc:TypeId × Value->H)(F:Stop.Interp) :
  ReturnsInHanded {} Tryd.checked os 5 .any ((OpenSpec.ofChange Rows.guardBoundsSpec).preRow enc Tryd.prog Tryd.f5 Rows.guardBoundsRow.domain false Rows.guardBoundsRow.laid) (((OpenSpec.ofChange Rows.guardBoundsSpec).at F).post enc Tryd.prog Tryd.f5 false true false false):=by
 obtain⟨places,hx⟩:=reads os enc;refine returnsInHanded_of_row (C:=Tryd.checked) (s:=OpenSpec.ofChange Rows.guardBoundsSpec) ownK started (by kernel_rfl) Tryd.func5
  (witness_row_at (enc:=enc) (C:=Tryd.checked) false (laidWorld Tryd.prog os) #[.int .i64 0,.int .i64 0,.int .i64 0] rfl (by kernel_rfl) (by kernel_rfl) (by kernel_rfl)
   (OpenSpec.preRow_of_cond 8 hx (by kernel_rfl) (fun k hk=>by cases hk) (by kernel_rfl) (laid_met os))) ?_
 intro W base args ds gs before hval hW _ _ hsz hL _ _;exact contract H enc W base args ds gs before hval hW hsz hL
theorem said:Rows.GuardBoundsSaid :=
 OpenClaim.holds_of_cond 5 Tryd.f5 rfl rfl rfl rfl rfl rfl rfl ⟨rfl,rfl,rfl,rfl,rfl⟩ rfl rfl rfl rfl rfl (by kernel_rfl) Tryd.func5 (by kernel_rfl)
  (of_decide_eq_true (by kernel_rfl)) (by unfold Func.isWrapper;first|(rw[if_pos (by decide +kernel)];kernel_rfl)|(rw[if_neg (by decide +kernel)];exact⟨rfl,rfl⟩))
  (fun os started H enc _ F=>by rw[OpenClaim.pre_eq_preRow];exact lifted os started H enc F)
theorem plain (f:FuncId)(fn:Func)(hf:Tryd.pinned.checked.prog.funcNamed Rows.guardBoundsRow.func=some f)(hfn:Tryd.pinned.checked.prog.funcs[f]?=some fn) :
  false=Tryd.pinned.checked.prog.looks []/\∀ (j:Nat) t,fn.params[j]?=some t->Tryd.pinned.checked.prog.wantsStandIn t=false:=by
 obtain rfl:f=5:=Option.some.inj ((show Tryd.prog.funcNamed Rows.guardBoundsRow.func=some 5 by kernel_rfl).symm.trans hf) |>.symm
 obtain rfl:fn=Tryd.f5:=(Option.some.inj (Tryd.func5.symm.trans hfn)).symm;refine⟨by kernel_rfl,fun j t ht=>?_⟩;rw[Tryd.params5] at ht;have hm:=Array.mem_of_getElem? ht;obtain rfl:t=3:=by simpa using hm
 exact(show Tryd.prog.wantsStandIn 3=false by kernel_rfl)
end Go.Proofs.YtlojiclhoiddlaaDoor.guardBounds
namespace Go.Proofs.YtlojiclhoiddlaaDoor
open Go.RowKit
theorem guardBounds_holds:Rows.GuardBoundsCardSaid :=
 Claim7.holds_tied_plain_at .later [] _ _ _ _ guardBounds.said (fun _ h=>by cases h) (by kernel_rfl) (fun _ h=>by cases h) guardBounds_row_tie rfl ⟨rfl,rfl⟩ (by kernel_rfl) rfl guardBounds.plain (by kernel_rfl)
#print axioms guardBounds_holds
end Go.Proofs.YtlojiclhoiddlaaDoor
