/- The law GuardWords of package isthmuslaw20 holds for every input: it answers true and leaves its arguments as they were (the tables of the packages pack, lex, code and math/bits as the program lays them). -/
import Derived.Test.YtpdfdhkdfkhfkaaDoorGbG
import Derived.Test.YtpdfdhkdfkhfkaaDoorCards
import Derived.Test.YtpdfdhkdfkhfkaaDoorTie
namespace Go.Proofs.YtpdfdhkdfkhfkaaDoor.guardWords
open Go.ChangeShapes Go.WideShapes Go.ChangeAt Go.RowKit
open Go.ChangeMaps (open_string shut_string)
set_option linter.unusedVariables false
set_option maxRecDepth 100000 in
set_option maxHeartbeats 1000000 in
theorem contract (H:Type)(enc:TypeId × Value->H)(W:World)(base:Nat)(args:Array Value)(ds gs:List (DataW H))(before:List MemPlace)
  (hval:∀ (j:Nat) t v,Tryd.f4.params[j]?=some t->args[j]?=some v->Value.okWide Tryd.prog W .any base t v)
  (hW:DataW.Whole enc Tryd.prog Tryd.f4.params.toList Rows.guardWordsSpec.vars false W args.toList ds gs before)
  (hsz:(DataW.weightsEach Tryd.prog (Tryd.f4.params.toList++(OpenSpec.ofChange Rows.guardWordsSpec).bare.plain.varTypes Tryd.prog) (ds++gs)).all (·<=reachBytes)=true) (hL:laidMetH Tryd.prog Rows.guardWordsRow.laid W) :
  Calls Tryd.prog 4 args W fun e W'=>∃v,e=.returned v/\Rows.guardWordsSpec.post enc Tryd.prog Tryd.f4 false true false false W args v W':=by
 have hW':=hW;obtain⟨p,q,hA0,hV,rfl,hfz,hnd⟩:=hW;have hA:DataW.TrodAll enc Tryd.prog W 0 (fun _=>true) true Tryd.f4.params.toList args.toList ds p:=hA0;rw[Tryd.params4] at hA hval hsz;obtain⟨v0,vs0,d0,ds0,p0,q0,hargs,rfl,rfl,h0,r0⟩:=trodAll_cons hA;obtain⟨v1,vs1,d1,ds1,p1,q1,rfl,rfl,rfl,h1,r1⟩:=trodAll_cons r0;obtain⟨rfl,rfl,rfl⟩:=trodAll_nil r1;obtain rfl:args=#[v0,v1]:=by cases args;simp_all
 obtain⟨rfl,rfl⟩:=trodVars_none hV;obtain⟨aa0,len0,cap0,rfl⟩:=okWide_slice Tryd.underlying36 (hval 0 36 v0 rfl rfl);obtain⟨aa1,len1,cap1,rfl⟩:=okWide_slice Tryd.underlying23 (hval 1 23 v1 rfl rfl);clear hA0;simp only[List.append_nil] at hW';have hlt0:∀ x ∈ p0,x.block<W.heap.size:=fun x hx=>by simpa using hW'.lt x (by simp[hx])
 obtain⟨ao0,cp0,zs0,hv0,LS0,OK0,ML0,WG0⟩:=open_raws h0 hlt0;cases hv0;have hr0:zs0.length*24<=140737488351232:=by
  rcases WG0 with ⟨_,h⟩|⟨es,sp,rfl,hl⟩
  ·omega
  ·have:=sized_slice hsz (j:=0) (t:=36) (e:=44) rfl rfl Tryd.underlying36
   rw[show Tryd.prog.bytesOf 44=24 by kernel_rfl] at this;simp only[reachBytes] at this;omega
 have hlt1:∀ x ∈ p1,x.block<W.heap.size:=fun x hx=>by simpa using hW'.lt x (by simp[hx])
 obtain⟨ao1,cp1,zs1,hv1,LS1,OK1,ML1,WG1⟩:=open_isl h1 hlt1;cases hv1;have hr1:zs1.length*8<=140737488351232:=by
  rcases WG1 with ⟨_,h⟩|⟨es,sp,rfl,hl⟩
  ·omega
  ·have:=sized_slice hsz (j:=1) (t:=23) (e:=3) rfl rfl Tryd.underlying23
   rw[show Tryd.prog.bytesOf 3=8 by kernel_rfl] at this;simp only[reachBytes] at this;omega
 refine(guardWords_walk _ _ zs0 _ _ zs1 W (fx_of_laid hL) (tz_of_laidG hL) LS0 OK0 hr0 LS1 OK1 hr1).mono fun e W' ⟨he,hnx⟩=>?_;subst he;exact⟨_,rfl,_,_,_,[],(p0++(p1++[])),[],hW',trodAll_cons_mk (shut_bool Tryd.underlying4 _) trodAll_mk0,(trodAll_cons_mk (Below.trod laidOut (by kernel_rfl) (of_decide_eq_true (by kernel_rfl)) h0 hnx hlt0) (trodAll_cons_mk (Below.trod laidOut (by kernel_rfl) (of_decide_eq_true (by kernel_rfl)) h1 hnx hlt1) trodAll_mk0)),rfl,hnx.frame _,fun h=>by cases h⟩
theorem laid_met (os:Os):laidMet Tryd.prog Rows.guardWordsRow.laid ((laidWorld Tryd.prog os).forCall (fun _ _=>0) ⟨#[],#[.slice none 0 0,.slice none 0 0],[]⟩).memory :=
 laidMet_of_run' 8 (by kernel_rfl) (by kernel_rfl)
theorem reads (os:Os){H:Type}(enc:TypeId × Value->H):∃places,DataW.whole enc Tryd.prog ((laidWorld Tryd.prog os).forCall (fun _ _=>0) ⟨#[],#[.slice none 0 0,.slice none 0 0],[]⟩).memory Tryd.f4.params.toList Rows.guardWordsSpec.vars false (#[.slice none 0 0,.slice none 0 0]:Array Value).toList 8=some ([.nil,.nil],[],places) :=
 ⟨[],by kernel_rfl⟩
set_option maxRecDepth 100000 in
theorem lifted (os:Os)(started:os.Started)(H:Type)(enc:TypeId × Value->H)(F:Stop.Interp) :
  ReturnsInHanded {} Tryd.checked os 4 .any ((OpenSpec.ofChange Rows.guardWordsSpec).preRow enc Tryd.prog Tryd.f4 Rows.guardWordsRow.domain false Rows.guardWordsRow.laid) (((OpenSpec.ofChange Rows.guardWordsSpec).at F).post enc Tryd.prog Tryd.f4 false true false false):=by
 obtain⟨places,hx⟩:=reads os enc;refine returnsInHanded_of_row (C:=Tryd.checked) (s:=OpenSpec.ofChange Rows.guardWordsSpec) ownK started (by kernel_rfl) Tryd.func4
  (witness_row_at (enc:=enc) (C:=Tryd.checked) false (laidWorld Tryd.prog os) #[.slice none 0 0,.slice none 0 0] rfl (by kernel_rfl) (by kernel_rfl) (by kernel_rfl)
   (OpenSpec.preRow_of_cond 8 hx (by kernel_rfl) (fun k hk=>by cases hk) (by kernel_rfl) (laid_met os))) ?_
 intro W base args ds gs before hval hW _ _ hsz hL _ _;exact contract H enc W base args ds gs before hval hW hsz hL
theorem said:Rows.GuardWordsSaid :=
 OpenClaim.holds_of_cond 4 Tryd.f4 rfl rfl rfl rfl rfl rfl rfl ⟨rfl,rfl,rfl,rfl,rfl⟩ rfl rfl rfl rfl rfl (by kernel_rfl) Tryd.func4 (by kernel_rfl)
  (of_decide_eq_true (by kernel_rfl)) (by unfold Func.isWrapper;first|(rw[if_pos (by decide +kernel)];kernel_rfl)|(rw[if_neg (by decide +kernel)];exact⟨rfl,rfl⟩))
  (fun os started H enc _ F=>by rw[OpenClaim.pre_eq_preRow];exact lifted os started H enc F)
theorem plain (f:FuncId)(fn:Func)(hf:Tryd.pinned.checked.prog.funcNamed Rows.guardWordsRow.func=some f)(hfn:Tryd.pinned.checked.prog.funcs[f]?=some fn) :
  false=Tryd.pinned.checked.prog.looks []/\∀ (j:Nat) t,fn.params[j]?=some t->Tryd.pinned.checked.prog.wantsStandIn t=false:=by
 obtain rfl:f=4:=Option.some.inj ((show Tryd.prog.funcNamed Rows.guardWordsRow.func=some 4 by kernel_rfl).symm.trans hf) |>.symm
 obtain rfl:fn=Tryd.f4:=(Option.some.inj (Tryd.func4.symm.trans hfn)).symm;refine⟨by kernel_rfl,fun j t ht=>?_⟩;rw[Tryd.params4] at ht;have hm:=Array.mem_of_getElem? ht;have hc:t=36\/t=23:=by simp only[List.mem_toArray,List.mem_cons,List.not_mem_nil,or_false] at hm;first|omega|(rcases hm with h|h|h<;>simp[h])|(rcases hm with h|h<;>simp[h])
 rcases hc with rfl|rfl
 ·exact(show Tryd.prog.wantsStandIn 36=false by kernel_rfl)
 ·exact(show Tryd.prog.wantsStandIn 23=false by kernel_rfl)
end Go.Proofs.YtpdfdhkdfkhfkaaDoor.guardWords
namespace Go.Proofs.YtpdfdhkdfkhfkaaDoor
open Go.RowKit
theorem guardWords_holds:Rows.GuardWordsCardSaid :=
 Claim7.holds_tied_plain_at .later [] _ _ _ _ guardWords.said (fun _ h=>by cases h) (by kernel_rfl) (fun _ h=>by cases h) guardWords_row_tie rfl ⟨rfl,rfl⟩ (by kernel_rfl) rfl guardWords.plain (by kernel_rfl)
#print axioms guardWords_holds
end Go.Proofs.YtpdfdhkdfkhfkaaDoor
