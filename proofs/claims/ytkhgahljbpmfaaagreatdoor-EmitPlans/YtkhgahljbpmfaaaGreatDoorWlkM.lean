import Derived.Test.YtkhgahljbpmfaaaGreatDoorRdqA
import Derived.Deep.RegionWith
import Derived.Deep.LoopGhost
set_option maxRecDepth 100000
set_option maxHeartbeats 8000000
namespace Go.Proofs.YtkhgahljbpmfaaaGreatDoor
open Option renaming none->G0,some->G1,isSome_some->JW,isSome_none->JX,isSome_eq_false_iff->Ka,isNone_iff_eq_none->Kg
open Nat renaming le_refl->G4,lt_of_lt_of_le->Hh,le_trans->In,not_lt_zero->Ir,zero_add->Ix,le_of_lt->IM,zero_le->JI
open Go.Proofs.Tryz renaming prog->G5,underlying9->Je,underlying147->JV,underlying5->KL
open Go renaming World->G9,lt_of_block->Ha,bodyPost_ret->Hb,heap_alloc_new->Hc,Value->He,results->Hk,heap_setCell_other->Hl,Calls->Hn,maxLen->Hu,Addr->Hw,cell_of_row->If,TypeId->Il,wpAnyH_take->Iy,results_none->Jq,wpAnyH_ready->JJ
open List renaming getElem?_eq_getElem->Hd,setIfInBounds_toArray->Hq,getElem_cons_zero->Hr,getElem_cons_succ->Hs,length_append->Hx,length_cons->Hy,getElem_toArray->Hz,set_cons_zero->Ic,set_cons_succ->Id,mem_of_find?_eq_some->Ii,replicate->Ik,not_mem_nil->IP,mem_cons->IR,mem_of_getElem?->IT,length_nil->I8,find?_some->Jm,append_nil->J1
open Go.RowKit renaming Below->Hf,intOf->Ih,wrap64->Io
open Go.Lib renaming hid->Hg,itoa->I6,decDigits->Kf,formatBool->KB,itoa_length_le->KI
open Go.RowKit.Below renaming refl->Hi,heap_alloc->Hj
open Bool renaming eq_iff_iff->Hm,and_eq_true->Ia,true_and->JM
open Go.World renaming cell?_of_block->Ho
open Go.Value renaming int->Hp
open Exists renaming intro->Hv
open Int renaming toNat_natCast->IE
open Go.IntKind renaming wrap_i64->II
open Go.Act renaming put->IQ
open Or renaming inl->Jp
open Go.AllReadyH renaming cons->Js,nil->JC
open Classical renaming byContradiction->JE
open Go.Exit renaming inBlock->JU,then->KJ
open Go.Maps renaming size->Kb
open List.cons renaming injEq->Ko
open Go.ChangeShapes Go.WideShapes Go.ChangeAt Go.RowKit
set_option linter.unusedVariables false
set_option linter.unusedSimpArgs false
def iJ (x:Tk):Prop:=∀ s:List UInt8,s≠[]->eH s=false->((x.k==3||x.k==4)&&x.t==s)=(x.t==s)
abbrev Sq:=Sum (Nat × Nat) (List Tk)
def QS (w:G9)(rb:Nat)(all:List Tk)(o q:Nat):Sq->Prop
 | .inl (er,a)=>∃(i:Nat) (o' q':Int),Rq w rb i o' q' er a all/\i<all.length/\er≠0
 | .inr ts=>∃(i pl:Nat),Rq w rb i (o:Nat) (q:Nat) 0 pl all/\all.drop i=ts/\WFT ts/\o<=64/\q<=4
def stp {α:Type}:Rs α->Sq
 | ⟨G0⟩=>.inl (0,0)
 | ⟨G1 (.inl (e,a))⟩=>.inl (e,a)
 | ⟨G1 (.inr (_,t))⟩=>.inr t
def onw {α:Type}(f:List Tk->Rs α):Sq->Sq
 | .inl ea=>.inl ea
 | .inr ts=>stp (f ts)
def isS (s:List UInt8):Sq->Bool
 | .inl _=>false
 | .inr []=>false
 | .inr (x::_)=>x.t==s
def nk (e:Nat):Sq->Sq
 | .inl ea=>.inl ea
 | .inr []=>.inl (0,0)
 | .inr (x::_)=>.inl (e,x.a)
theorem QS.below {w w':G9}{rb o q:Nat}{all:List Tk}{st:Sq}(h:QS w rb all o q st)(b:Hf w.heap.size w w'):QS w' rb all o q st:=by
 match st,h with
 | .inl (er,a),⟨i,o',q',h1,h2⟩=>exact⟨i,o',q',h1.below b,h2⟩
 | .inr ts,⟨i,pl,h1,h2⟩=>exact⟨i,pl,h1.below b,h2⟩
theorem QS.lt {w:G9}{rb o q:Nat}{all:List Tk}{st:Sq}(h:QS w rb all o q st):rb<w.heap.size:=by
 match st,h with
 | .inl (er,a),⟨i,o',q',h1,h2⟩=>exact h1.lt
 | .inr ts,⟨i,pl,h1,h2⟩=>exact h1.lt
theorem qk {all:List Tk}{i:Nat}{x:Tk}{r:List Tk}(h:all.drop i=x::r):all[i]?=G1 x/\all.drop (i+1)=r/\x ∈ all:=by
 have h1:(all.drop i)[0]?=G1 x:=by rw[h];rfl
 rw[List.getElem?_drop] at h1;have h2:(all.drop i).tail=r:=by rw[h];rfl
 rw[List.tail_drop] at h2;exact⟨by simpa using h1,h2,List.mem_of_mem_drop (i:=i) (by rw[h];exact List.mem_cons_self)⟩
theorem DU {w:G9}{rb i:Nat}{o q:Int}{pl:Nat}{all:List Tk}{x:Tk}(e:Nat)(h:Rq w rb i o q 0 pl all)(hx:all[i]?=G1 x) :
  Hn G5 29 #[.pointer (G1 ⟨rb,0,G0⟩),.int .i64 (e:Nat)] w λr w'=>r=.returned (.tuple #[])/\Rq w' rb i o q e x.a all/\dX rb w w':=by
 obtain⟨_,_,_,_,_,_,_,_,_,_,_,c4,_,hf0⟩:=h.next hx;have h1:=h.set.2.2.2.1 e;have h2:=h1.set.2.2.2.2 x.a;have K:=(dX.at (rb:=rb) w 4 (.int .i64 (e:Nat))).trans (dX.at _ 5 (.int .i64 (x.a:Nat)));obtain⟨g,cap,L,hg,hi,hc,hm,hL,⟨c0,c1,t0,t1,t2,t3⟩,-,-,-,c5,hf⟩:=h1.next hx;have hmm:cap<=9223372036854775807:=hm;have hiI:(i:Int)<(L:Int):=by omega
 clear h h1 t0 t1 t2 hm;go_enter Tryz.func29,Tryz.ntmps29;go_upto_region 2 with fail;generalize w.setCell ⟨rb,4,G0⟩ (.int .i64 (e:Nat))=w3 at *;go_region
 all_goals
  go_wp2
  go_end0
  exact⟨rfl,h2.below (Hi _ _).drew,K.drew⟩
theorem AH {w:G9}{rb i:Nat}{o q:Int}{er pl:Nat}{all:List Tk}{x:Tk}(e:Nat)(h:Rq w rb i o q er pl all)(hx:all[i]?=G1 x)(h0:er≠0) :
  Hn G5 29 #[.pointer (G1 ⟨rb,0,G0⟩),.int .i64 (e:Nat)] w λr w'=>r=.returned (.tuple #[])/\Rq w' rb i o q er pl all/\dX rb w w':=by
 have b0:((er:Int)==0)=false:=by simp;omega
 obtain⟨_,_,_,_,_,_,_,_,_,_,_,c4,_,hf0⟩:=h.next hx;have K:=dX.refl rb w;clear h0;go_enter Tryz.func29,Tryz.ntmps29;go_wp2
 go_end0
 exact⟨rfl,h,K⟩
theorem vr {w:G9}{rb o q:Nat}{all:List Tk}{st:Sq}(TI:∀ x,x ∈ all->iJ x)(s:List UInt8)(hs:s≠[])(hn:eH s=false)(h:QS w rb all o q st) :
  Hn G5 103 #[.pointer (G1 ⟨rb,0,G0⟩),stv s] w λe w'=>e=.returned (.bool (isS s st))/\Hf w.heap.size w w':=by
 match st,h with
 | .inl (er,a),⟨i,o',q',h1,h2,h3⟩ =>
  refine(is_q s h1 (Hd h2)).mono ?_;rintro e w' ⟨rfl,b⟩;exact⟨by simp[h3,isS],b⟩
 | .inr [],⟨i,pl,h1,h2,h3⟩=>exact absurd rfl h3.1.ne
 | .inr (x::r),⟨i,pl,h1,h2,h3⟩ =>
  obtain⟨hx,_,hm⟩:=qk h2;refine(is_q s h1 hx).mono ?_;rintro e w' ⟨rfl,b⟩;exact⟨by rw[TI x hm s hs hn];simp[isS],b⟩
theorem jL {w:G9}{rb o q:Nat}{all:List Tk}{st:Sq}(e:Nat)(he:e≠0)(h:QS w rb all o q st) :
  Hn G5 29 #[.pointer (G1 ⟨rb,0,G0⟩),.int .i64 (e:Nat)] w λr w'=>r=.returned (.tuple #[])/\QS w' rb all o q (nk e st)/\dX rb w w':=by
 match st,h with
 | .inl (er,a),⟨i,o',q',h1,h2,h3⟩ =>
  refine(AH e h1 (Hd h2) h3).mono ?_;rintro r w' ⟨rfl,b,k⟩;exact⟨rfl,⟨i,o',q',b,h2,h3⟩,k⟩
 | .inr [],⟨i,pl,h1,h2,h3⟩=>exact absurd rfl h3.1.ne
 | .inr (x::r),⟨i,pl,h1,h2,h3⟩ =>
  obtain⟨hx,_,hm⟩:=qk h2;refine(DU e h1 hx).mono ?_;rintro r' w' ⟨rfl,b,k⟩;exact⟨rfl,⟨i,_,_,b,by have:=List.getElem?_eq_some_iff.1 hx;exact this.1,he⟩,k⟩
theorem QS.ok {w:G9}{rb o q:Nat}{all:List Tk}{x:Tk}{r:List Tk}(h:QS w rb all o q (.inr (x::r))) :
  ∃i g cap L:Nat,g<rb/\i<L/\L<=cap/\cap<=9223372036854775807/\L<=3000/\x ∈ all/\w.cell? ⟨rb,0,G0⟩=G1 (.slice (G1 ⟨g,0,G0⟩) L cap)/\w.cell? ⟨rb,1,G0⟩=G1 (.int .i64 (i:Nat))/\w.cell? ⟨rb,2,G0⟩=G1 (.int .i64 (o:Nat))/\w.cell? ⟨rb,3,G0⟩=G1 (.int .i64 (q:Nat))/\w.cell? ⟨rb,4,G0⟩=G1 (.int .i64 0)/\(w.cell? ⟨g,i*4,G0⟩=G1 (.int .i64 (x.k:Nat))/\w.cell? ⟨g,i*4+1,G0⟩=G1 (.int .i64 x.n)/\w.cell? ⟨g,i*4+2,G0⟩=G1 (stv x.t)/\w.cell? ⟨g,i*4+3,G0⟩=G1 (.int .i64 (x.a:Nat)))/\(∀ j,w.frozen? ⟨rb,j,G0⟩=false):=by
 obtain⟨i,pl,h1,h2,h3⟩:=h;obtain⟨hx,h4,hm⟩:=qk h2;obtain⟨g,cap,L,hg,hi,hc,hm2,hL,⟨c0,c1,t0,t1,t2,t3⟩,c2,c3,c4,c5,hf⟩:=h1.next hx;exact⟨i,g,cap,L,hg,hi,hc,hm2,hL,hm,c0,c1,c2,c3,c4,⟨t0,t1,t2,t3⟩,hf⟩
theorem QS.over {w:G9}{rb o q:Nat}{all:List Tk}{x:Tk}{r:List Tk}(h:QS w rb all o q (.inr (x::r)))(hx:x.t≠[]\/x.k≠0){i:Nat}(hi:w.cell? ⟨rb,1,G0⟩=G1 (.int .i64 (i:Nat))) :
  QS (w.setCell ⟨rb,1,G0⟩ (.int .i64 ((i:Int)+1))) rb all o q (.inr r):=by
 obtain⟨i2,pl,h1,h2,h3⟩:=h;obtain⟨hx2,h4,hm⟩:=qk h2;obtain⟨_,_,_,_,_,_,_,_,⟨_,c1,_⟩,_⟩:=h1.next hx2;rw[hi] at c1;have e:i=i2:=by
  have e2:(i:Int)=(i2:Int):=by simpa using c1
  omega
 subst e;exact⟨i+1,pl,h1.set.1 (i+1),h4,h3.1.tail hx,h3.2⟩
theorem QS.open {w:G9}{rb o q:Nat}{all:List Tk}{ts:List Tk}(h:QS w rb all o q (.inr ts))(o':Nat)(ho:o'<=64) :
  QS (w.setCell ⟨rb,2,G0⟩ (.int .i64 (o':Nat))) rb all o' q (.inr ts):=by
 obtain⟨i,pl,h1,h2⟩:=h;exact⟨i,pl,h1.set.2.1 (o':Nat),h2.1,h2.2.1,ho,h2.2.2.2⟩
theorem QS.quants {w:G9}{rb o q:Nat}{all:List Tk}{ts:List Tk}(h:QS w rb all o q (.inr ts))(q':Nat)(hq:q'<=4) :
  QS (w.setCell ⟨rb,3,G0⟩ (.int .i64 (q':Nat))) rb all o q' (.inr ts):=by
 obtain⟨i,pl,h1,h2⟩:=h;exact⟨i,pl,h1.set.2.2.1 (q':Nat),h2.1,h2.2.1,h2.2.2.1,hq⟩
theorem QS.down {w:G9}{rb o q:Nat}{all:List Tk}{st:Sq}(h:QS w rb all (o+1) q st) :
  ∃o':Int,w.cell? ⟨rb,2,G0⟩=G1 (.int .i64 o')/\(∀ j,w.frozen? ⟨rb,j,G0⟩=false)/\QS (w.setCell ⟨rb,2,G0⟩ (.int .i64 (Io (o' - 1)))) rb all o q st:=by
 match st,h with
 | .inl (er,a),⟨i,o',q',h1,h2,h3⟩ =>
  obtain⟨_,_,_,_,_,_,_,_,_,c2,_,_,_,hf⟩:=h1.next (Hd h2);exact⟨o',c2,hf,i,_,q',h1.set.2.1 _,h2,h3⟩
 | .inr [],⟨i,pl,h1,h2,h3⟩=>exact absurd rfl h3.1.ne
 | .inr (x::r),⟨i,pl,h1,h2,h3⟩ =>
  obtain⟨hx,_,hm⟩:=qk h2;obtain⟨_,_,_,_,_,_,_,_,_,c2,_,_,_,hf⟩:=h1.next hx;refine⟨_,c2,hf,i,pl,?_,h2,h3.1,by have:=h3.2.1;omega,h3.2.2⟩;have e:Io ((((o+1:Nat):Int))-1)=((o:Nat):Int):=by have:=h3.2.1;unfold Io;omega
  rw[e];exact h1.set.2.1 _
theorem QS.le {w:G9}{rb o q:Nat}{all:List Tk}{ts:List Tk}(h:QS w rb all o q (.inr ts)):o<=64/\q<=4/\WFT ts:=by
 obtain⟨i,pl,h1,h2,h3,h4⟩:=h;exact⟨h4.1,h4.2,h3⟩
theorem oW {s:List UInt8}{st:Sq}(h:isS s st=true):∃x r,st=.inr (x::r)/\x.t=s:=by
 match st,h with
 | .inr (x::r),h=>exact⟨x,r,rfl,by simpa [isS] using h⟩
theorem qi {s:List UInt8}{st:Sq}(h:isS s st=false){all:List Tk}{w:G9}{rb o q:Nat}(hs:QS w rb all o q st):nk 120 st=onw (eI s) st/\∀ o2,nk 120 st=onw (el s o2) st:=by
 match st,h,hs with
 | .inl (er,a),h,hs=>exact⟨rfl,λ_=>rfl⟩
 | .inr [],h,⟨i,pl,h1,h2,h3⟩=>exact absurd rfl h3.1.ne
 | .inr (x::r),h,hs =>
  have hx:¬x.t=s:=by simpa [isS] using h
  exact⟨by simp[nk,onw,eI,hx,stp],λ_=>by simp[nk,onw,el,hx,stp]⟩
theorem vj {w:G9}{rb o q:Nat}{all:List Tk}{st:Sq}(TI:∀ x,x ∈ all->iJ x)(s:List UInt8)(hs:s≠[])(hn:eH s=false)(h:QS w rb all o q st) :
  Hn G5 203 #[.pointer (G1 ⟨rb,0,G0⟩),stv s] w λe w'=>e=.returned (.tuple #[])/\QS w' rb all o q (onw (eI s) st)/\dX rb w w':=by
 have c:=vr TI s hs hn h;cases hb:isS s st with
 | true =>
  obtain⟨x,r,rfl,hx⟩:=oW hb;have e1:onw (eI s) (.inr (x::r))=.inr r:=by simp[onw,eI,hx,stp]
  rw[e1];rw[hb] at c;have hx2:x.t≠[]\/x.k≠0:=.inl (by rw[hx];exact hs);clear e1 hb hx;go_enter Tryz.func203,Tryz.ntmps203;go_wp2_with fail;refine c.mono ?_;rintro e w2 ⟨rfl,b⟩;have h2:=h.below b;obtain⟨i,g,cap,L,hg,hi,hcL,hcap,hL,hm,c0,c1,c2,c3,c4,-,hf⟩:=h2.ok;have h3:=h2.over hx2 c1;have K:=(dX.ofBelow (rb:=rb) b).trans (dX.at w2 1 (.int .i64 ((i:Int)+1)));clear h2 h c b c0 c2 c3 c4;go_wp2
  go_end0
  exact⟨rfl,h3,K⟩
 | false =>
  rw[<-(qi hb h).1];rw[hb] at c;have HF:∀ w2,QS w2 rb all o q st->Hn G5 29 #[.pointer (G1 ⟨rb,0,G0⟩),.int .i64 120] w2 λr w'=>r=.returned (.tuple #[])/\QS w' rb all o q (nk 120 st)/\dX rb w2 w':=λw2 h2=>jL 120 (by decide) h2;clear hb;go_enter Tryz.func203,Tryz.ntmps203;go_wp2_with fail;refine c.mono ?_;rintro e w2 ⟨rfl,b⟩;go_wp2_with fail;refine(HF w2 (h.below b)).mono ?_;rintro e w3 ⟨rfl,h3,k3⟩;have K:=(dX.ofBelow (rb:=rb) b).trans k3;clear h c b HF;go_wp2
  (try simp only[JU,KJ])
  refine Hb (Jq rfl _ _ _) rfl ?_;exact⟨rfl,h3,K⟩
theorem vL {w:G9}{rb q:Nat}{all:List Tk}{x:Tk}{r:List Tk}(h:QS w rb all 64 q (.inr (x::r))) :
  Hn G5 104 #[.pointer (G1 ⟨rb,0,G0⟩)] w λe w'=>e=.returned (.tuple #[])/\QS w' rb all 65 q (.inl (121,x.a))/\dX rb w w':=by
 have c:Hn G5 29 #[.pointer (G1 ⟨rb,0,G0⟩),.int .i64 121] w λr' w'=>r'=.returned (.tuple #[])/\QS w' rb all 65 q (.inl (121,x.a))/\dX rb w w':=(jL 121 (by decide) h).mono λe w' hh=>⟨hh.1,hh.2.1,hh.2.2⟩;obtain⟨i,g,cap,L,hg,hi,hcL,hcap,hL,hm,c0,c1,c2,c3,c4,-,hf⟩:=h.ok;clear h c0 c1 c3 c4;go_enter Tryz.func104,Tryz.ntmps104;go_wp2_with fail;refine c.mono ?_;rintro e w3 ⟨rfl,h3,k3⟩;clear c;go_wp2
 (try simp only[JU,KJ])
 refine Hb (Jq rfl _ _ _) rfl ?_;exact⟨rfl,h3,k3⟩
theorem q7 {w:G9}{rb o q:Nat}{all:List Tk}{x:Tk}{r:List Tk}(ho:o<64)(hx:x.t≠[])(h:QS w rb all o q (.inr (x::r))) :
  Hn G5 104 #[.pointer (G1 ⟨rb,0,G0⟩)] w λe w'=>e=.returned (.tuple #[])/\QS w' rb all (o+1) q (.inr r)/\dX rb w w':=by
 have h1:=h.open (o+1) (by omega);rw[show ((o+1:Nat):Int)=(o:Int)+1 by omega] at h1;obtain⟨i,g,cap,L,hg,hi,hcL,hcap,hL,hm,c0,c1,c2,c3,c4,-,hf⟩:=h.ok;obtain⟨i2,g2,cap2,L2,hg2,hi2,hcL2,hcap2,hL2,hm2,d0,d1,d2,d3,d4,-,hf2⟩:=h1.ok;have h2:=h1.over (.inl hx) d1;have K:=(dX.at (rb:=rb) w 2 (.int .i64 ((o:Int)+1))).trans (dX.at _ 1 (.int .i64 ((i2:Int)+1)));have hb:((o:Int)==64)=false:=by simp;omega
 clear h h1 c0 c1 c3 c4 d0 d2 d3 d4;go_enter Tryz.func104,Tryz.ntmps104;go_upto_region 3 with fail;generalize w.setCell ⟨rb,2,G0⟩ (.int .i64 ((o:Int)+1))=w3 at *;go_wp2
 go_end0
 exact⟨rfl,h2,K⟩
theorem qH {w:G9}{rb o q:Nat}{all:List Tk}{st:Sq}(TI:∀ x,x ∈ all->iJ x)(s:List UInt8)(hs:s≠[])(hn:eH s=false)(h:QS w rb all o q st) :
  Hn G5 160 #[.pointer (G1 ⟨rb,0,G0⟩),stv s] w λe w'=>e=.returned (.tuple #[])/\QS w' rb all (o+1) q (onw (el s o) st)/\dX rb w w':=by
 have c:=vr TI s hs hn h;cases hb:isS s st with
 | true =>
  obtain⟨x,r,rfl,hx⟩:=oW hb;rw[hb] at c;have HF:∀ w2,QS w2 rb all o q (.inr (x::r))->Hn G5 104 #[.pointer (G1 ⟨rb,0,G0⟩)] w2 λe w'=>e=.returned (.tuple #[])/\QS w' rb all (o+1) q (onw (el s o) (.inr (x::r)))/\dX rb w2 w':=λw2 h2=>by
   by_cases h64:o=64
   ·subst h64;have e1:onw (el s 64) (.inr (x::r))=.inl (121,x.a):=by simp[onw,el,hx,stp]
    rw[e1];exact vL h2
   ·have e1:onw (el s o) (.inr (x::r))=.inr r:=by simp[onw,el,hx,stp,h64]
    rw[e1];exact q7 (by have:=h2.le.1;omega) (by rw[hx];exact hs) h2
  clear hb hx;generalize onw (el s o) (.inr (x::r))=st2 at *;go_enter Tryz.func160,Tryz.ntmps160;go_wp2_with fail;refine c.mono ?_;rintro e w2 ⟨rfl,b⟩;go_wp2_with fail;refine(HF w2 (h.below b)).mono ?_;rintro e w3 ⟨rfl,h3,k3⟩;have K:=(dX.ofBelow (rb:=rb) b).trans k3;clear h c b HF;go_wp2
  go_end0
  exact⟨rfl,h3,K⟩
 | false =>
  rw[<-(qi hb h).2 o];rw[hb] at c;have HF:∀ w2,QS w2 rb all o q st->Hn G5 29 #[.pointer (G1 ⟨rb,0,G0⟩),.int .i64 120] w2 λr w'=>r=.returned (.tuple #[])/\QS w' rb all (o+1) q (nk 120 st)/\dX rb w2 w':=λw2 h2=>(jL 120 (by decide) h2).mono λe w' hh=>⟨hh.1,by
   obtain⟨er,a,e1⟩:∃er a,nk 120 st=.inl (er,a):=by
    match st with
    | .inl (er,a)=>exact⟨er,a,rfl⟩
    | .inr []=>exact⟨0,0,rfl⟩
    | .inr (x::r)=>exact⟨120,x.a,rfl⟩
   have h3:=hh.2.1;rw[e1] at h3 ⊢;exact h3,hh.2.2⟩
  clear hb;go_enter Tryz.func160,Tryz.ntmps160;go_wp2_with fail;refine c.mono ?_;rintro e w2 ⟨rfl,b⟩;go_wp2_with fail;refine(HF w2 (h.below b)).mono ?_;rintro e w3 ⟨rfl,h3,k3⟩;have K:=(dX.ofBelow (rb:=rb) b).trans k3;clear h c b HF;go_wp2
  (try simp only[JU,KJ])
  refine Hb (Jq rfl _ _ _) rfl ?_;exact⟨rfl,h3,K⟩
theorem Dl {w:G9}{rb o q:Nat}{all:List Tk}{st:Sq}(TI:∀ x,x ∈ all->iJ x)(s:List UInt8)(hs:s≠[])(hn:eH s=false)(h:QS w rb all (o+1) q st) :
  Hn G5 161 #[.pointer (G1 ⟨rb,0,G0⟩),stv s] w λe w'=>e=.returned (.tuple #[])/\QS w' rb all o q (onw (eI s) st)/\dX rb w w':=by
 have c:=vj TI s hs hn h;generalize onw (eI s) st=st2 at *;go_enter Tryz.func161,Tryz.ntmps161;go_wp2_with fail;refine c.mono ?_;rintro e w2 ⟨rfl,h2,k2⟩;obtain⟨o',c2,hf,h3⟩:=h2.down;have K:=k2.trans (dX.at w2 2 (.int .i64 (Io (o' - 1))));clear h c k2 h2;go_wp2
 go_end0
 exact⟨rfl,h3,K⟩
def iS (L:List (List UInt8))(st:Sq):Int :=
 match L.findIdx? (λs=>isS s st) with
 | some i=>(i:Nat)
 | none=>-1
theorem q8 {L:List (List UInt8)}{st:Sq}{k:Nat}{s:List UInt8}(hk:L[k]?=G1 s)(hs:isS s st=true)(hn:∀ j t,j<k->L[j]?=G1 t->isS t st=false):iS L st=(k:Nat):=by
 have:L.findIdx? (λs=>isS s st)=G1 k:=by
  obtain⟨hl,he⟩:=List.getElem?_eq_some_iff.1 hk;rw[List.findIdx?_eq_some_iff_getElem];refine⟨hl,by rw[he];exact hs,λj hj=>?_⟩
  have:=hn j (L[j]'(by omega)) hj (Hd _)
  simp[this]
 unfold iS;rw[this]
theorem rM {L:List (List UInt8)}{st:Sq}(hn:∀ j t,j<L.length->L[j]?=G1 t->isS t st=false):iS L st=-1:=by
 have:L.findIdx? (λs=>isS s st)=G0:=by
  rw[List.findIdx?_eq_none_iff];intro t ht;obtain⟨j,hj,he⟩:=List.getElem_of_mem ht;exact hn j t hj (by rw[<-he];exact Hd _)
 unfold iS;rw[this]
theorem jT {w:G9}{rb o q:Nat}{all:List Tk}{st:Sq}(TI:∀ x,x ∈ all->iJ x)(L:List (List UInt8))(hL:∀ s,s ∈ L->s≠[]/\eH s=false)(h:QS w rb all o q st){g n cap:Nat}(hn:n=L.length)(hg:g<w.heap.size)(hl:∀ j s,L[j]?=G1 s->w.cell? ⟨g,j,G0⟩=G1 (stv s))(hc:n<=cap)(hm:cap<=Hu) :
  Hn G5 54 #[.pointer (G1 ⟨rb,0,G0⟩),.slice (G1 ⟨g,0,G0⟩) n cap] w λe w'=>e=.returned (.int .i64 (iS L st))/\Hf w.heap.size w w':=by
 have hmm:cap<=9223372036854775807:=hm;obtain⟨V,hV⟩:∃V,V=iS L st:=⟨_,rfl⟩;rw[<-hV];have HV:Hid (V=iS L st):=hV;have HN:Hid (n=L.length):=hn;have HL:Hid (∀ j s wx,L[j]?=G1 s->Hf w.heap.size w wx->wx.cell? ⟨g,j,G0⟩=G1 (stv s)):=λj s wx hj b=>(b.cell (p:=⟨g,j,G0⟩) hg).trans (hl j s hj);have HI:Hid (∀ s wx,s ∈ L->Hf w.heap.size w wx->Hn G5 103 #[.pointer (G1 ⟨rb,0,G0⟩),stv s] wx λe w'=>e=.returned (.bool (isS s st))/\Hf wx.heap.size wx w'):=λs wx hs b=>vr TI s (hL s hs).1 (hL s hs).2 (h.below b);clear hV hn hl h hL TI hm;go_enter Tryz.func54,Tryz.ntmps54;go_wp2_with fail;go_loopw [5] (λv wr=>∃k:Nat,v=.int .i64 (k:Nat)/\k<=n/\(∀ j t,j<k->L[j]?=G1 t->isS t st=false)/\Hf w.heap.size w wr) (λv _=>n-(Ih v).toNat)
 case atStart=>exact⟨0,by go_num,by omega,λj t hj=>by omega,Hi _ w⟩
 case round =>
  obtain⟨k,rfl,hk,hin,hB⟩:=hrel;by_cases hlt:k<n
  ·have hkI:(k:Int)<(n:Int):=by omega
   obtain⟨s,hs⟩:∃s,L[k]?=G1 s:=⟨_,Hd (by rw[<-HN.out];exact hlt)⟩;have ix:=HL.out k s wr hs hB;have c:=HI.out s wr (IT hs) hB;have hk9:k<9223372036854775807:=by omega
   cases hb:isS s st with
   | true =>
    rw[hb] at c;have fin:Hid (V=(k:Nat)):=by show V=_;rw[HV.out];exact q8 hs hb hin
    clear hin HI HL HV hs hb;go_wp2_with fail;refine c.mono ?_;rintro e w2 ⟨rfl,b2⟩;have B2:=hB.trans (b2.mono hB.size);clear c ix;go_wp2;go_ret;exact⟨by rw[fin.out];rfl,B2⟩
   | false =>
    rw[hb] at c;have hin2:∀ j t,j<k+1->L[j]?=G1 t->isS t st=false:=λj t hj ht=>by
     by_cases e:j=k
     ·subst e;rw[hs] at ht;cases ht;exact hb
     ·exact hin j t (by omega) ht
    have HI2:=Hg hin2;clear hin HI HL HV hs hb hin2;go_wp2_with fail;refine c.mono ?_;rintro e w2 ⟨rfl,b2⟩;have B2:=hB.trans (b2.mono hB.size);clear c ix hB b2;go_wp2;go_roundw
    case rel=>(try ((repeat apply Hv);refine⟨?_,rfl⟩));exact⟨k+1,by go_num,by omega,HI2.out,B2⟩
    case measure=>simp[Ih];omega
  ·obtain rfl:k=n:=by omega
   have fin:Hid (V=-1):=by show V=_;rw[HV.out];exact rM (by rw[<-HN.out];exact hin)
   clear hin HI HL HV HN;go_wp2;go_ret;exact⟨by rw[fin.out];rfl,hB⟩
abbrev Nb (n bl:Nat):Nat->Prop:=λb=>n<=b/\b≠bl
theorem Sl.toB {n n1 bl:Nat}{w:G9}{f:Fs}{ao:Option Hw}(h:Sl w (Nw n1) f ao)(hn:n<=n1)(hb:bl<n1):Sl w (Nb n bl) f ao:=h.mono (λ_ _ _=>rfl) (G4 _) (λk hk _=>⟨In hn hk,by have hk:n1<=k:=hk;omega⟩)
theorem Sl.toB' {n bl:Nat}{w:G9}{f:Fs}{ao:Option Hw}(h:Sl w (Nw n) f ao)(hb:w.heap.size<=bl):Sl w (Nb n bl) f ao:=h.mono (λ_ _ _=>rfl) (G4 _) (λk hk hl=>⟨hk,by omega⟩)
theorem Sl.keepB {rb n bl:Nat}{w w':G9}{f:Fs}{ao:Option Hw}(h:Sl w (Nb n bl) f ao)(k:dX rb w w')(hn:rb<n):Sl w' (Nb n bl) f ao:=h.mono (λi hp hl=>k.block i hl (by have:=hp.1;omega)) k.size (λ_ h _=>h)
theorem Sl.allocB {P:Nat->Prop}{w:G9}{f:Fs}{ao:Option Hw}(h:Sl w P f ao)(ob:Obj):Sl (w.alloc ob) P f ao:=h.mono (λi hp hl=>Hj w ob i hl) (by simp) (λ_ h _=>h)
theorem Sl.setB {n bl:Nat}{w:G9}{f:Fs}{ao:Option Hw}(h:Sl w (Nb n bl) f ao)(p:Hw)(v:He)(hp:p.block=bl\/p.block<n):Sl (w.setCell p v) (Nb n bl) f ao:=h.mono (λi hi hl=>Hl w p i v (by have h1:=hi.1;have h2:=hi.2;rcases hp with hp|hp<;>omega)) (by simp) (λ_ h _=>h)
theorem Sl.set5B {n bl:Nat}{w:G9}{f:Fs}{ao:Option Hw}(h:Sl w (Nb n bl) f ao){b:Nat}(hb:b=bl\/b<n)(b0 b1 b2 b3 b4:He):Sl (((((w.setCell ⟨b,0,G0⟩ b0).setCell ⟨b,1,G0⟩ b1).setCell ⟨b,2,G0⟩ b2).setCell ⟨b,3,G0⟩ b3).setCell ⟨b,4,G0⟩ b4) (Nb n bl) f ao:=((((h.setB ⟨b,0,G0⟩ b0 hb).setB ⟨b,1,G0⟩ b1 hb).setB ⟨b,2,G0⟩ b2 hb).setB ⟨b,3,G0⟩ b3 hb).setB ⟨b,4,G0⟩ b4 hb
theorem Sl.lowB {n bl m:Nat}{w:G9}{f:Fs}{ao:Option Hw}(h:Sl w (Nb n bl) f ao)(hm:m<=n):Sl w (Nw m) f ao:=h.mono (λ_ _ _=>rfl) (G4 _) (λk hk _=>In hm hk.1)
def cwL:List (List UInt8):=gQ.map (·.1)
def qwL:List (List UInt8):=gO.map (·.1)
def Wl (w:G9)(L:List (List UInt8))(w':G9)(g:Nat):Prop:=Hf w.heap.size w w'/\w.heap.size<=g/\g<w'.heap.size/\∀ j s,L[j]?=G1 s->w'.cell? ⟨g,j,G0⟩=G1 (stv s)
theorem lG (w:G9)(L:List (List UInt8))(t:Il):Wl w L (w.alloc (.cells (L.map stv).toArray t)) w.heap.size:=by
 refine⟨(Hi _ w).alloc (G4 _) _,G4 _,by simp,λj s hj=>?_⟩;have hh:(w.alloc (.cells (L.map stv).toArray t)).heap[w.heap.size]?=G1 (.cells (L.map stv).toArray t (0,0)):=Hc w _;rw[If _ _ _ _ _ (0,0) hh];simp[hj]
theorem wP (w:G9):Hn G5 158 #[] w λe w'=>∃g,e=.returned (.slice (G1 ⟨g,0,G0⟩) 10 10)/\Wl w cwL w' g:=by
 have H:=lG w cwL 9;have e1:(cwL.map stv)=gQ.map (λx=>stv x.1):=rfl;go_enter Tryz.func158,Tryz.ntmps158;go_wp2;go_ret;exact⟨_,rfl,H⟩
theorem pb (w:G9):Hn G5 159 #[] w λe w'=>∃g,e=.returned (.slice (G1 ⟨g,0,G0⟩) 6 6)/\Wl w qwL w' g:=by
 have H:=lG w qwL 9;go_enter Tryz.func159,Tryz.ntmps159;go_wp2;go_ret;exact⟨_,rfl,H⟩
abbrev bxE (e:Ex)(ao:Option Hw)(cap:Nat):Obj:=.cells #[.int .i64 e.k,.int .i64 e.n,stv e.nm,.slice ao e.kids.len cap,.int .i64 e.a] 25
theorem Fc.allocP {P:Nat->Prop}{w:G9}{f:Fs}{xs:List He}(h:Fc w P f xs)(ob:Obj):Fc (w.alloc ob) P f xs:=h.mono (λi hp hl=>Hj w ob i hl) (by simp) (λ_ h _=>h)
theorem Sl.freshP {w:G9}{P:Nat->Prop}{f:Fs}(xs:List He)(t:Il)(h:Fc w P f xs)(hp:P w.heap.size):Sl (w.alloc (.cells xs.toArray t)) P f (G1 ⟨w.heap.size,0,G0⟩):=by
 refine Sl.of hp (by simp) (λj u hu=>?_) (h.allocP _);rw[Ix];rw[If _ w.heap.size j _ t (0,0) (Hc w _)];simpa using hu
theorem GT {w:G9}{P:Nat->Prop}(k:Nat)(at0:Int){a b:Ex}{aoa aob:Option Hw}{ca cb:Nat}(ha:Sl w P a.kids aoa)(hb:Sl w P b.kids aob)(hn:P (w.heap.size+1+1+1)) :
  Hn G5 55 #[.int .i64 (k:Nat),.int .i64 at0,exV a aoa ca,exV b aob cb] w λe w'=>∃ao cap,e=.returned (exV ⟨(k:Nat),0,[],at0,(one a).snoc b⟩ ao cap)/\Sl w' P ((one a).snoc b) ao/\Hf w.heap.size w w':=by
 have s1:(w.alloc (bxE a aoa ca)).heap.size=w.heap.size+1:=by simp
 have s2:((w.alloc (bxE a aoa ca)).alloc (bxE b aob cb)).heap.size=w.heap.size+1+1:=by simp
 have s3:(((w.alloc (bxE a aoa ca)).alloc (bxE b aob cb)).alloc (bxE ⟨(k:Nat),0,[],at0,(one a).snoc b⟩ (G1 ⟨w.heap.size+1+1+1,0,G0⟩) 2)).heap.size=w.heap.size+1+1+1:=by simp
 have hS:=Sl.freshP _ 25 (Fc.app (Fc.one (e:=a) ca (((ha.allocB (bxE a aoa ca)).allocB (bxE b aob cb)).allocB (bxE ⟨(k:Nat),0,[],at0,(one a).snoc b⟩ (G1 ⟨w.heap.size+1+1+1,0,G0⟩) 2))) (Fc.one (e:=b) cb (((hb.allocB (bxE a aoa ca)).allocB (bxE b aob cb)).allocB (bxE ⟨(k:Nat),0,[],at0,(one a).snoc b⟩ (G1 ⟨w.heap.size+1+1+1,0,G0⟩) 2)))) (by rw[s3];exact hn);have hZ:(((w.alloc (bxE a aoa ca)).alloc (bxE b aob cb)).alloc (bxE ⟨(k:Nat),0,[],at0,(one a).snoc b⟩ (G1 ⟨w.heap.size+1+1+1,0,G0⟩) 2)).heap[w.heap.size+1+1]?=G1 (bxE ⟨(k:Nat),0,[],at0,(one a).snoc b⟩ (G1 ⟨w.heap.size+1+1+1,0,G0⟩) 2):=by
  have:=Hc ((w.alloc (bxE a aoa ca)).alloc (bxE b aob cb)) (bxE ⟨(k:Nat),0,[],at0,(one a).snoc b⟩ (G1 ⟨w.heap.size+1+1+1,0,G0⟩) 2)
  rw[s2] at this;exact this
 have hZ2:=(Hj _ (.cells ([.int .i64 a.k,.int .i64 a.n,stv a.nm,.slice aoa a.kids.len ca,.int .i64 a.a]++[.int .i64 b.k,.int .i64 b.n,stv b.nm,.slice aob b.kids.len cb,.int .i64 b.a]).toArray 25) _ (Ha hZ)).trans hZ;have hB:Hf w.heap.size w ((((w.alloc (bxE a aoa ca)).alloc (bxE b aob cb)).alloc (bxE ⟨(k:Nat),0,[],at0,(one a).snoc b⟩ (G1 ⟨w.heap.size+1+1+1,0,G0⟩) 2)).alloc (.cells ([.int .i64 a.k,.int .i64 a.n,stv a.nm,.slice aoa a.kids.len ca,.int .i64 a.a]++[.int .i64 b.k,.int .i64 b.n,stv b.nm,.slice aob b.kids.len cb,.int .i64 b.a]).toArray 25)):=((((Hi _ w).alloc (by omega) _).alloc (by omega) _).alloc (by omega) _).alloc (by omega) _;rw[s3] at hS;have l2:((one a).snoc b).len=2:=rfl;obtain⟨u0,u1,u2,u3,u4,-⟩:=dS hZ2;have FIN:Hid (∀ wx,wx=((((w.alloc (bxE a aoa ca)).alloc (bxE b aob cb)).alloc (bxE ⟨(k:Nat),0,[],at0,(one a).snoc b⟩ (G1 ⟨w.heap.size+1+1+1,0,G0⟩) 2)).alloc (.cells ([.int .i64 a.k,.int .i64 a.n,stv a.nm,.slice aoa a.kids.len ca,.int .i64 a.a]++[.int .i64 b.k,.int .i64 b.n,stv b.nm,.slice aob b.kids.len cb,.int .i64 b.a]).toArray 25))->Sl wx P ((one a).snoc b) (G1 ⟨w.heap.size+1+1+1,0,G0⟩)/\Hf w.heap.size w wx/\wx.cell? ⟨w.heap.size+1+1,0,G0⟩=G1 (.int .i64 (k:Nat))/\wx.cell? ⟨w.heap.size+1+1,1,G0⟩=G1 (.int .i64 0)/\wx.cell? ⟨w.heap.size+1+1,2,G0⟩=G1 (stv [])/\wx.cell? ⟨w.heap.size+1+1,3,G0⟩=G1 (.slice (G1 ⟨w.heap.size+1+1+1,0,G0⟩) 2 2)/\wx.cell? ⟨w.heap.size+1+1,4,G0⟩=G1 (.int .i64 at0)):=λwx e=>by
  subst e;exact⟨hS,hB,u0,u1,u2,u3,u4⟩
 clear hS hB hZ hZ2 u0 u1 u2 u3 u4 s1 s2 s3 l2 ha hb;unfold exV;go_enter Tryz.func55,Tryz.ntmps55;go_wp2;obtain⟨f1,f2,u0,u1,u2,u3,u4⟩:=FIN.out _ rfl;exact Hb (v:=exV ⟨(k:Nat),0,[],at0,(one a).snoc b⟩ (G1 ⟨w.heap.size+1+1+1,0,G0⟩) 2) (by simp[Hk,Tryz.results55,go_sem,exV];rfl) rfl ⟨_,_,rfl,f1,f2⟩
def sgW:Nat->List (List UInt8)
 | 1=>[[111,114]]
 | 2=>[[97,110,100]]
 | 4=>[[61],[33,61],[60,61],[60]]
 | 5=>[[43],[45]]
 | _=>[[42],[47],[37]]
def sgK:Nat->List Nat
 | 1=>[18]
 | 2=>[17]
 | 4=>[13,14,16,15]
 | 5=>[8,9]
 | _=>[10,11,12]
def Sg (w:G9)(row:Nat)(w':G9)(g1 g2:Nat):Prop:=Wl w (sgW row) w' g1/\w.heap.size<=g2/\g2<w'.heap.size/\∀ j k,(sgK row)[j]?=G1 k->w'.cell? ⟨g2,j,G0⟩=G1 (.int .i64 (k:Nat))
theorem Ge (w:G9)(row:Nat)(t1 t2:Il):Sg w row ((w.alloc (.cells ((sgW row).map stv).toArray t1)).alloc (.cells ((sgK row).map (λk=>Hp .i64 (k:Nat))).toArray t2)) w.heap.size (w.heap.size+1):=by
 obtain⟨h1,h2,h3,h4⟩:=lG w (sgW row) t1;have hs:(w.alloc (.cells ((sgW row).map stv).toArray t1)).heap.size=w.heap.size+1:=by simp
 refine⟨⟨h1.alloc (by omega) _,h2,by simp;omega,λj s hj=>?_⟩,by omega,by simp,λj k hj=>?_⟩
 ·exact(Ho (a:=⟨w.heap.size,j,G0⟩) (Hj _ _ _ h3)).trans (h4 j s hj)
 ·have hh:=Hc (w.alloc (.cells ((sgW row).map stv).toArray t1)) (.cells ((sgK row).map (λk=>Hp .i64 (k:Nat))).toArray t2);rw[hs] at hh;rw[If _ _ _ _ _ (0,0) hh];simp[hj]
theorem GV (w:G9)(row:Nat)(t1 t2:Il):Sg w row ((w.alloc (.cells ((sgK row).map (λk=>Hp .i64 (k:Nat))).toArray t2)).alloc (.cells ((sgW row).map stv).toArray t1)) (w.heap.size+1) w.heap.size:=by
 have hs:(w.alloc (.cells ((sgK row).map (λk=>Hp .i64 (k:Nat))).toArray t2)).heap.size=w.heap.size+1:=by simp
 obtain⟨h1,h2,h3,h4⟩:=lG (w.alloc (.cells ((sgK row).map (λk=>Hp .i64 (k:Nat))).toArray t2)) (sgW row) t1;rw[hs] at h2 h3 h4;have b1:Hf w.heap.size w (w.alloc (.cells ((sgK row).map (λk=>Hp .i64 (k:Nat))).toArray t2)):=(Hi _ w).alloc (G4 _) _;refine⟨⟨b1.trans (h1.mono (by omega)),by omega,h3,h4⟩,by omega,by omega,λj k hj=>?_⟩;have hh:=Hc w (.cells ((sgK row).map (λk=>Hp .i64 (k:Nat))).toArray t2);have hh2:=(Hj (w.alloc (.cells ((sgK row).map (λk=>Hp .i64 (k:Nat))).toArray t2)) (.cells ((sgW row).map stv).toArray t1) _ (Ha hh)).trans hh;rw[If _ _ _ _ _ (0,0) hh2];simp[hj]
theorem wS (w:G9)(row n:Nat)(hr:row=1\/row=2\/row=4\/row=5\/row=6)(hn:n=(sgW row).length) :
  Hn G5 53 #[.int .i64 (row:Nat)] w λe w'=>∃g1 g2,e=.returned (.tuple #[.slice (G1 ⟨g1,0,G0⟩) n n,.slice (G1 ⟨g2,0,G0⟩) n n])/\Sg w row w' g1 g2:=by
 have H1:=Hg (λw2:G9=>Ge w2 row 9 3);have H2:=Hg (λw2:G9=>GV w2 row 9 3);rcases hr with rfl|rfl|rfl|rfl|rfl
 all_goals
  subst hn;go_enter Tryz.func53,Tryz.ntmps53;go_wp2;go_ret2;exact⟨_,_,rfl,H1.out w⟩
theorem yW (k:Nat)(hk:k<10):((UInt8.ofNat (48+k)).toNat:Int)=48+(k:Int):=by
 rw[UInt8.toNat_ofNat'];omega
theorem tm (w:G9)(b k:Nat)(hk:k<10)(hb:w.heap[b]?=G1 (.cells #[.int .u8 (48+(k:Int))] 5 (0,0))) :
  (convert 147 9 (.slice (G1 ⟨b,0,G0⟩) 1 1)).run G5 w=.ok (.string ⟨#[UInt8.ofNat (48+k)]⟩) w :=
 run_convert_bytes_back _ 147 9 5 ⟨b,0,G0⟩ 1 [UInt8.ofNat (48+k)] JV KL Je
  (λj hj=>by
   have e:j=0:=by simp at hj;omega
   subst e
   have:=yW k hk
   simp only[Hr];rw[this];show w.cell? ⟨b,0+0,G0⟩=_;rw[If w b _ _ _ (0,0) hb];rfl)
theorem DK (l:List UInt8)(c:UInt8):(⟨l.toArray⟩:ByteArray)++⟨#[c]⟩=⟨(l++[c]).toArray⟩:=by
 apply ByteArray.ext;simp
def vM (n:Nat):Prop:=∀ w:G9,Hn G5 230 #[.int .i64 (n:Nat)] w λe w'=>e=.returned (stv (Kf n))/\Hf w.heap.size w w'
theorem qC (n:Nat)(h:n<10):vM n:=by
 intro w;rw[Kf,dif_pos h];have B0:Hf w.heap.size w (w.alloc (.cells #[.int .u8 (48+(n:Int))] 5)):=(Hi _ w).alloc (G4 _) _;have F0:=tm (w.alloc (.cells #[.int .u8 (48+(n:Int))] 5)) w.heap.size n h (Hc w _);obtain⟨c,hc⟩:∃c,c=UInt8.ofNat (48+n):=⟨_,rfl⟩;rw[<-hc] at F0 ⊢;clear hc;have hI:(n:Int)<10:=by omega
 have hw:IntKind.u8.wrap (48+(n:Int))=48+(n:Int):=by show (48+(n:Int)) % 256=_;omega
 go_enter Tryz.func230,Tryz.ntmps230;go_wp2;go_ret;exact⟨rfl,B0⟩
theorem Cg (n:Nat)(h:¬n<10)(hn:n<=9223372036854775807)(IH:vM (n / 10)):vM n:=by
 intro w;rw[Kf,dif_neg h];have hm:n % 10<10:=Nat.mod_lt _ (by omega);have HT:Hid (∀ (wx:G9) (b:Nat),wx.heap[b]?=G1 (.cells #[.int .u8 (48+((n % 10:Nat):Int))] 5 (0,0))->(convert 147 9 (.slice (G1 ⟨b,0,G0⟩) 1 1)).run G5 wx=.ok (.string ⟨#[UInt8.ofNat (48+n % 10)]⟩) wx):=λwx b hb=>tm wx b (n % 10) hm hb;have IH:=λwx=>IH wx;have e1:IntKind.i64.wrap (Int.tdiv (n:Int) 10)=((n / 10:Nat):Int):=by rw[II,show Int.tdiv (n:Int) 10=((n / 10:Nat):Int) from rfl];omega
 have e2:IntKind.i64.wrap (Int.tmod (n:Int) 10)=((n % 10:Nat):Int):=by rw[II,show Int.tmod (n:Int) 10=((n % 10:Nat):Int) from rfl];omega
 have e3:Int.tdiv (n:Int) 10=((n / 10:Nat):Int):=rfl;have e4:Int.tmod (n:Int) 10=((n % 10:Nat):Int):=rfl;obtain⟨q,hq⟩:∃q,q=n / 10:=⟨_,rfl⟩;obtain⟨r,hr⟩:∃r,r=n % 10:=⟨_,rfl⟩;rw[<-hq] at IH e1 e3 ⊢;rw[<-hr] at HT e2 e4 hm ⊢;obtain⟨c,hc⟩:∃c,c=UInt8.ofNat (48+r):=⟨_,rfl⟩;rw[<-hc] at HT ⊢;obtain⟨L,hL⟩:∃L,L=Kf q:=⟨_,rfl⟩;have hl9:L.length<=21:=by
  have h9:=KI (q:Nat) (by omega) (by omega);unfold I6 at h9;rw[if_neg (by omega),IE,<-hL] at h9;exact h9
 have hsm:=jV L;rw[<-hL] at IH ⊢;have HN:Hid (n<=9223372036854775807):=hn;have hq1:IntKind.i64.wrap (q:Int)=(q:Int):=by rw[II];omega
 have hr1:IntKind.i64.wrap (48+(r:Int))=48+(r:Int):=by rw[II];omega
 clear hq hr hc hL e1 e2;have hI:¬(n:Int)<10:=by omega
 have hw:IntKind.u8.wrap (48+(r:Int))=48+(r:Int):=by show (48+(r:Int)) % 256=_;omega
 have F1:=HT.out ((w.alloc (.cells #[.int .u8 (48+(r:Int))] 5)).drew) w.heap.size (Hc w _);have B0:Hf w.heap.size w (w.alloc (.cells #[.int .u8 (48+(r:Int))] 5)).drew:=((Hi _ w).alloc (G4 _) _).drew;have hs0:w.heap.size<(w.alloc (.cells #[.int .u8 (48+(r:Int))] 5)).drew.heap.size:=by show w.heap.size<(w.alloc _).heap.size;simp
 have hbl:((w.alloc (.cells #[.int .u8 (48+(r:Int))] 5)).drew).heap[w.heap.size]?=G1 (.cells #[.int .u8 (48+(r:Int))] 5 (0,0)):=Hc w _;have Hbl:=Hg hbl;clear hbl;have HC:Hid (((⟨L.toArray⟩:ByteArray)++⟨#[c]⟩)=⟨(L++[c]).toArray⟩):=DK L c;go_enter Tryz.func230,Tryz.ntmps230;go_upto_region 3 with fail;go_region_with ((first|(go_at_call 230;refine(IH w.drew).mono ?_;rintro e w1 ⟨rfl,b1⟩;have B1:Hf w.heap.size w w1:=(Hi _ w).drew.trans b1;have B2:Hf w.heap.size w (w1.alloc (.cells #[.int .u8 (48+(r:Int))] 5)):=B1.alloc B1.size _;have F2:=HT.out (w1.alloc (.cells #[.int .u8 (48+(r:Int))] 5)) w1.heap.size (Hc w1 _))|(go_at_call 230;refine(IH ((w.alloc (.cells #[.int .u8 (48+(r:Int))] 5)).drew)).mono ?_;rintro e w1 ⟨rfl,b1⟩;have B2:Hf w.heap.size w w1:=B0.trans (b1.mono B0.size);have F2:=HT.out w1 w.heap.size ((b1.block _ hs0).trans Hbl.out))))
 all_goals
  rw[HC.out];go_wp2;go_ret;exact⟨rfl,B2⟩
theorem wX:∀ (m n:Nat),n<=m->n<=9223372036854775807->vM n
 | 0,n,hm,hn=>qC n (by omega)
 | m+1,n,hm,hn=>by
  by_cases h:n<10
  ·exact qC n h
  ·exact Cg n h hn (wX m (n / 10) (by omega) (by omega))
theorem sG (n:Int)(h0:0<=n)(h1:n<=9223372036854775807)(w:G9):Hn G5 230 #[.int .i64 n] w λe w'=>e=.returned (stv (I6 n))/\Hf w.heap.size w w':=by
 have h:=wX n.toNat n.toNat (G4 _) (by omega) w;rw[show ((n.toNat:Nat):Int)=n by omega] at h;have e:I6 n=Kf n.toNat:=by unfold I6;rw[if_neg (by omega)]
 rw[e];exact h
theorem Da (x:List UInt8 × Nat × Nat × Nat × Nat)(hx:x ∈ iO):(x.2.2.1=1\/x.2.2.1=2\/x.2.2.1=4\/x.2.2.1=5\/x.2.2.1=6)/\∃i,i<4/\(sgW x.2.2.1)[i]?=G1 x.1/\(sgK x.2.2.1)[i]?=G1 x.2.1/\(∀ j,j<i->(sgK x.2.2.1)[j]?≠G1 x.2.1)/\∀ r,r<x.2.2.1->r≠3->r≠0->∀ j,j<4->(sgK r)[j]?≠G1 x.2.1:=by
 simp only[iO,IR,IP,or_false] at hx;rcases hx with rfl|rfl|rfl|rfl|rfl|rfl|rfl|rfl|rfl|rfl|rfl
 ·exact⟨by decide,0,by decide,rfl,rfl,by decide,by decide⟩
 ·exact⟨by decide,0,by decide,rfl,rfl,by decide,by decide⟩
 ·exact⟨by decide,0,by decide,rfl,rfl,by decide,by decide⟩
 ·exact⟨by decide,1,by decide,rfl,rfl,by decide,by decide⟩
 ·exact⟨by decide,3,by decide,rfl,rfl,by decide,by decide⟩
 ·exact⟨by decide,2,by decide,rfl,rfl,by decide,by decide⟩
 ·exact⟨by decide,0,by decide,rfl,rfl,by decide,by decide⟩
 ·exact⟨by decide,1,by decide,rfl,rfl,by decide,by decide⟩
 ·exact⟨by decide,0,by decide,rfl,rfl,by decide,by decide⟩
 ·exact⟨by decide,1,by decide,rfl,rfl,by decide,by decide⟩
 ·exact⟨by decide,2,by decide,rfl,rfl,by decide,by decide⟩
theorem Ak (r:Nat):(sgK r).length=(sgW r).length/\(sgW r).length<=4:=by
 unfold sgK sgW;split<;>exact⟨rfl,by decide⟩
theorem EH {k:Int}{x:List UInt8 × Nat × Nat × Nat × Nat}(h:gZ k=G1 x)(w:G9):Hn G5 234 #[.int .i64 k] w λe w'=>e=.returned (stv x.1)/\Hf w.heap.size w w':=by
 have hm:=Ii h;have hk:((x.2.1:Nat):Int)=k:=by have:=Jm h;simpa using this
 obtain⟨hr,ix,hix,hw,hkk,hj,hrow⟩:=Da x hm;obtain⟨x1,x2,r,x4,x5⟩:=x;simp only at hk hr hw hkk hj hrow ⊢;subst hk;have HW:Hid ((sgW r)[ix]?=G1 x1):=hw;have HK:Hid ((sgK r)[ix]?=G1 x2):=hkk;have HJ:Hid (∀ j,j<ix->(sgK r)[j]?≠G1 x2):=hj;have HR:Hid (∀ r',r'<r->r'≠3->r'≠0->∀ j,j<4->(sgK r')[j]?≠G1 x2):=hrow;have hr7:r<7:=by omega
 have HR3:Hid (r≠3):=by show r≠3;omega
 have B0:=Hi w.heap.size w;clear hw hkk hj hrow hm h;go_enter Tryz.func234,Tryz.ntmps234;go_wp2_with fail;go_loopw [3] (λv wr=>∃row:Nat,v=.int .i64 (row:Nat)/\1<=row/\row<=r/\Hf w.heap.size w wr) (λv _=>8-(Ih v).toNat)
 case atStart=>exact⟨1,by go_num,by omega,by omega,B0⟩
 case round =>
  clear B0;obtain⟨row,rfl,h1,hle,B1⟩:=hrel;have hrI:(row:Int)<7:=by omega
  by_cases h3:row=3
  ·subst h3;have hlt:3<r:=by have:=HR3.out;omega
   go_wp2;go_roundw
   case rel=>(try ((repeat apply Hv);refine⟨?_,rfl⟩));exact⟨4,by go_num,by omega,by omega,B1⟩
   case measure=>simp[Ih]
  ·have b3:((row:Int)==3)=false:=by simp;omega
   obtain⟨n,hn⟩:∃n,n=(sgW row).length:=⟨_,rfl⟩;have c:=wS wr row n (by omega) hn;have HN:Hid (n=(sgW row).length):=hn;have hn4:n<=4:=by rw[hn];exact(Ak row).2
   have H3:Hid (row≠3):=h3;clear hn h3 hr;go_wp2_with fail;refine c.mono ?_;rintro e w2 ⟨g1,g2,rfl,sg⟩;have B2:Hf w.heap.size w w2:=B1.trans (sg.1.1.mono B1.size);have SG:Hid (g1<w2.heap.size/\g2<w2.heap.size/\(∀ j s,(sgW row)[j]?=G1 s->w2.cell? ⟨g1,j,G0⟩=G1 (stv s))/\∀ j k,(sgK row)[j]?=G1 k->w2.cell? ⟨g2,j,G0⟩=G1 (.int .i64 (k:Nat))):=⟨sg.1.2.2.1,sg.2.2.1,sg.1.2.2.2,sg.2.2.2⟩;clear c sg B1;go_wp2_with fail;go_loopw [6] (λv wr=>∃i:Nat,v=.int .i64 (i:Nat)/\i<=n/\Hid (row=r->i<=ix)/\wr=w2) (λv _=>n-(Ih v).toNat)
   case atStart=>exact⟨0,by go_num,by omega,λ_=>JI _,rfl⟩
   case round =>
    obtain⟨i,rfl,hin,HI,rfl⟩:=hrel;by_cases hlt:i<n
    ·have hiI:(i:Int)<(n:Int):=by omega
     have hl:=Ak row;obtain⟨kk,hkk⟩:∃kk,(sgK row)[i]?=G1 kk:=⟨_,Hd (by rw[hl.1,<-HN.out];exact hlt)⟩;obtain⟨s,hs⟩:∃s,(sgW row)[i]?=G1 s:=⟨_,Hd (by rw[<-HN.out];exact hlt)⟩;have ck:=SG.out.2.2.2 i kk hkk;have cs:=SG.out.2.2.1 i s hs;by_cases hy:row=r/\i=ix
     ·have e1:kk=x2:=by
       have:=HK.out
       rw[<-hy.1,<-hy.2,hkk] at this;injection this
      have e2:s=x1:=by
       have:=HW.out
       rw[<-hy.1,<-hy.2,hs] at this;injection this
      subst e1 e2;clear hy hkk hs hl;go_wp2;go_ret;exact⟨rfl,B2⟩
     ·have hne:kk≠x2:=λe=>by
       rw[e] at hkk;by_cases hrr:row=r
       ·have hi2:i<ix:=by
         have:=HI.out hrr
         have:i≠ix:=λe=>hy ⟨hrr,e⟩
         omega
        exact HJ.out i hi2 (by rw[<-hrr];exact hkk)
       ·exact HR.out row (by omega) H3.out (by omega) i (by omega) hkk
      have bne2:((kk:Int)==(x2:Int))=false:=by simp;omega
      have HI2:Hid (row=r->i+1<=ix):=λe=>by
       have:=HI.out e
       have:i≠ix:=λe2=>hy ⟨e,e2⟩
       omega
      clear hy hkk hs hl hne HI;go_wp2;go_roundw
      case rel=>(try ((repeat apply Hv);refine⟨?_,rfl⟩));exact⟨i+1,by go_num,by omega,HI2,by trivial⟩
      case measure=>simp[Ih];omega
    ·obtain rfl:i=n:=by omega
     have hlt2:row<r:=by
      by_cases e:row=r
      ·have h5:=HI.out e;have h6:ix<(sgW r).length:=(List.getElem?_eq_some_iff.1 HW.out).1;have h7:=HN.out;rw[e] at h7;omega
      ·omega
     clear HI;go_wp2;go_roundw
     case rel=>(try ((repeat apply Hv);refine⟨?_,rfl⟩));exact⟨row+1,by go_num,by omega,by omega,B2⟩
     case measure=>simp[Ih];omega
abbrev bxX (e:Ex)(ao:Option Hw)(cap:Nat):Obj:=.cells #[.int .i64 e.k,.int .i64 e.n,stv e.nm,.slice ao e.kids.len cap,.int .i64 e.a] 25
def kh (N:Nat):Prop:=∀ (e:Ex) (ao:Option Hw) (cap:Nat) (set:Bool) (wb:Nat) (st:Ow) (w:G9) (o:Nat->Nat),e.kids.size<N->e.fit->Sl w (L0 o) e.kids ao->WQ w o wb st ->
 Hn G5 193 #[.pointer (G1 ⟨wb,0,G0⟩),exV e ao cap,.bool set] w (i8 w o wb (oEx e set st))
theorem WQ.stp0 {w w':G9}{o o':Nat->Nat}{wb:Nat}{st:Ow}(h:WQ w o wb st)(s:as (λ_=>False) w o w' o'):WQ w' o' wb st:=h.step s id id
theorem Sl.stp0 {w w':G9}{o o':Nat->Nat}{f:Fs}{ao:Option Hw}(h:Sl w (L0 o) f ao)(s:as (λ_=>False) w o w' o'):Sl w' (L0 o') f ao:=h.mono (λi hp hl=>s.block i hl id) s.size (λi hp hl=>(s.lab i hl).trans hp)
theorem AS (w:G9)(o:Nat->Nat)(n:Nat):as (λ_=>False) w o (w.drewN n) o:=(as.refl _ w o).drewN n
theorem as.i12 {w w':G9}{o o':Nat->Nat}(s:as (λ_=>False) w o w' o'):as I12 w o w' o':=s.mono λ_ h=>h.elim
theorem iT {st s:Ow}(h:Bal (eF st) s):∀ x,s=G1 x->1<=x.o:=λx hx=>by
 obtain⟨y,hy,h1,_⟩:=h x hx
 match st,hy with
 | some z,hy =>
  simp only[eF] at hy;split at hy
  ·cases hy
  ·injection hy with hy
   subst hy;show 1<=x.o;rw[h1];show 1<=z.o+1;omega
theorem Bal.refl (st:Ow):Bal st st:=λs h=>⟨s,h,rfl,rfl⟩
theorem Bal.trans {a b c:Ow}(h:Bal a b)(k:Bal b c):Bal a c:=λs hs=>by
 obtain⟨y,hy,h1,h2⟩:=k s hs;obtain⟨z,hz,h3,h4⟩:=h y hy;exact⟨z,hz,h1.trans h3,h2.trans h4⟩
theorem Bal.put {a b:Ow}(h:Bal a b)(x:List UInt8):Bal a (ew x b):=h.trans λs hs=>by
 match b,hs with
 | some z,hs =>
  simp only[ew] at hs;split at hs
  ·cases hs
  ·injection hs with hs
   subst hs;exact⟨z,rfl,rfl,rfl⟩
theorem Bal.lea {a b:Ow}(h:Bal (eF a) b):Bal a (gY b):=λs hs=>by
 match b,h,hs with
 | some z,h,hs =>
  injection hs with hs
  subst hs;obtain⟨y,hy,h1,h2⟩:=h z rfl
  match a,hy with
  | some u,hy =>
   simp only[eF] at hy;split at hy
   ·cases hy
   ·injection hy with hy
    subst hy;exact⟨u,rfl,by show z.o-1=u.o;rw[h1];show u.o+1-1=_;omega,h2⟩
theorem Bal.qle {a b:Ow}(h:Bal (j8 a) b):Bal a (tG b):=λs hs=>by
 match b,h,hs with
 | some z,h,hs =>
  injection hs with hs
  subst hs;obtain⟨y,hy,h1,h2⟩:=h z rfl
  match a,hy with
  | some u,hy =>
   simp only[j8] at hy;split at hy
   ·cases hy
   ·injection hy with hy
    subst hy;exact⟨u,rfl,h1,by show z.q-1=u.q;rw[h2];show u.q+1-1=_;omega⟩
theorem Cf {st s:Ow}(h:Bal (j8 st) s):∀ x,s=G1 x->1<=x.q:=λx hx=>by
 obtain⟨y,hy,_,h1⟩:=h x hx
 match st,hy with
 | some z,hy =>
  simp only[j8] at hy;split at hy
  ·cases hy
  ·injection hy with hy
   subst hy;show 1<=x.q;rw[h1];show 1<=z.q+1;omega
theorem AN {k n:Int}{nm:List UInt8}{K:Sep->Ow->Ow}(hK:∀ g s,Bal s (K g s))(s:Ow):Bal s (eP k n nm K s):=by
 have lst:∀ (x y:List UInt8) (s:Ow),Bal s (ke x y K s):=λx y s=>(Bal.lea (((Bal.refl (eF s)).put x).trans (hK _ _))).put y;unfold eP;split
 ·exact Bal.lea (hK _ _)
 ·split
  ·exact Bal.lea (hK _ _)
  ·split
   ·exact Bal.lea (hK _ _)
   ·split
    ·exact Bal.qle (Bal.lea (hK _ _))
    ·split
     ·exact((Bal.refl s).put _).trans (lst _ _ _)
     ·split
      ·exact((Bal.refl s).put _).trans (lst _ _ _)
      ·split
       ·exact lst _ _ _
       ·unfold iM;split
        ·exact(Bal.refl s).put _
        ·split
         ·exact(Bal.refl s).put _
         ·split
          ·exact(Bal.refl s).put _
          ·split
           ·exact(Bal.refl s).put _
           ·split
            ·exact(Bal.refl s).put _
            ·exact hK _ _
theorem oh {k n:Int}{nm:List UInt8}{len:Nat}{set:Bool}{K:Sep->Ow->Ow}(hK:∀ g s,Bal s (K g s))(s:Ow):Bal s (lA k n nm len set K s):=by
 unfold lA;split
 ·exact AN hK s
 ·intro x hx;cases hx
theorem D7 {k n:Int}{nm:List UInt8}{len asked:Nat}{set:Bool}{K:Sep->Ow->Ow}(hK:∀ g s,Bal s (K g s))(s:Ow):Bal s (oE k n nm len set asked K s):=by
 unfold oE;split
 ·exact(Bal.lea (((Bal.refl (eF s)).put _).trans (oh hK _))).put _
 ·exact oh hK s
theorem lS:∀ (f:Fs) (b:Bool) (g:Sep) (i:Nat) (s:Ow),Bal s (oFs f b g i s)
 | ⟨G0⟩,b,g,i,s=>Bal.refl s
 | ⟨G1 ⟨k,n,nm,a,ks,r⟩⟩,b,g,i,s=>(((Bal.refl s).put _).trans (D7 (λg s=>lS ks (k==21) g 0 s) _)).trans (lS r false g (i+1) _)
def ib (e y:Ex)(i:Nat)(st:Ow):Ow:=oE y.k y.n y.nm y.kids.len (e.k==21&&decide (i=0)) (md e.k i) (λg s=>oFs y.kids (y.k==21) g 0 s) st
theorem Cs (y:Ex)(b:Bool)(s:Ow):Bal s (oEx y b s):=oh (λg s=>lS _ _ _ _ _) s
theorem Ev (k:Int)(i:Nat):(md k i:Nat)<=8+i:=by
 unfold md
 have:=uo k
 split
 ·omega
 ·split
  ·omega
  ·split<;>omega
theorem jx {N:Nat}(IH:kh N)(e y:Ex)(x r:Fs)(hk:e.kids=x.app (Fs.ex y r))(i:Nat)(hi:x.len=i)(hi9:i<=1000000000)(hN:y.kids.size<N)(hy:y.fit)(ao:Option Hw)(cap wb:Nat)(st:Ow)(w:G9)(o:Nat->Nat)(S:Sl w (L0 o) e.kids ao)(H:WQ w o wb st) :
  Hn G5 232 #[.pointer (G1 ⟨wb,0,G0⟩),exV e ao cap,.int .i64 (i:Nat)] w (i8 w o wb (ib e y i st)):=by
 have hlen:i<e.kids.len:=by rw[hk,Fs.len_app,EG];omega
 obtain⟨b,off,ak,ck,rfl,x0,x1,x2,x3,x4,SK⟩:=Sl.kidP (x:=x) (y:=y) (r:=r) (by rw[hk] at S;exact S) i hi;have hbl:b<w.heap.size:=by
  rcases S with h|⟨b',off',zs,he,hp,hlt,hc,hf⟩
  ·rw[hk] at h;cases x using Fs.on with
   | nil=>cases h
   | Js _ _ _ _ _ _=>cases h
  ·injection he with he;injection he with he;subst he;exact hlt
 obtain⟨w0,hw0⟩:∃w0,w0=(w.alloc (bxX e (G1 ⟨b,off,G0⟩) cap)).alloc (bxX y ak ck):=⟨_,rfl⟩;obtain⟨o0,ho0⟩:∃o0,o0=dQ (w.alloc (bxX e (G1 ⟨b,off,G0⟩) cap)) (dQ w o 0) 0:=⟨_,rfl⟩;have s0:as (λ_=>False) w o w0 o0:=by rw[hw0,ho0];exact(ez _ w o _).trans (ez _ _ _ _)
 have E0:w0.heap[w.heap.size]?=G1 (bxX e (G1 ⟨b,off,G0⟩) cap):=by
  rw[hw0];exact(Hj _ _ _ (by simp)).trans (Hc w _)
 have Y0:w0.heap[w.heap.size+1]?=G1 (bxX y ak ck):=by
  rw[hw0]
  have:=Hc (w.alloc (bxX e (G1 ⟨b,off,G0⟩) cap)) (bxX y ak ck)
  simpa using this
 have l0:o0 w.heap.size=0:=by rw[ho0,ed (by simp),dY (G4 _)]
 have l1:o0 (w.heap.size+1)=0:=by rw[ho0,dY (by simp)]
 have SK0:=SK.stp0 s0;have H0:=H.stp0 s0;have hiI:(i:Int)<(e.kids.len:Int):=by omega
 have hal:=Ev e.k i;clear ho0 S SK H hk;rw[dU];go_enter Tryz.func232,Tryz.ntmps232;go_upto_region 2 with fail;rw[<-hw0];clear hw0 x0 x1 x2 x3 x4;generalize w.heap.size=be at *;obtain⟨p0,p1,p2,p3,p4,pf⟩:=dS E0;obtain⟨y0,y1,y2,y3,y4,yf⟩:=dS Y0;have hrw:IntKind.i64.wrap ((gh y.k:Nat):Int)=((gh y.k:Nat):Int):=by have:=uo y.k;rw[II];omega
 go_quiet ((first|(go_at_call 245;exact Calls.quiet_of_same (Eh _ _))|(go_at_call 246;exact Calls.quiet_of_same (DD _ _ hi9 _))))
 have d1:=AS w0 o0 nq;have H1:=H0.stp0 d1;have SK1:=SK0.stp0 d1;have s1:=(s0.trans d1).i12;have E1:Blk (w0.drewN nq) o0 0 be (bxX e (G1 ⟨b,off,G0⟩) cap):=⟨E0,l0⟩;have Y1:Blk (w0.drewN nq) o0 0 (be+1) (bxX y ak ck):=⟨Y0,l1⟩;clear H0 SK0 s0 d1 E0 Y0 l0 l1 p0 p1 p2 p3 p4 pf y0 y1 y2 y3 y4 yf;generalize w0.drewN nq=w1 at *;by_cases hrow:gh y.k<md e.k i
 ·have hge:¬((md e.k i:Nat):Int)<=((gh y.k:Nat):Int):=by omega
  have c2:=jo [40] H1 (by simp);have HF:Hid (ib e y i st=ew [41] (gY (oEx y false (ew [40] (eF st))))):=by show oE _ _ _ _ _ _ _ _=_;unfold oE;rw[if_pos hrow];rfl
  have hpos:∀ x,oEx y false (ew [40] (eF st))=G1 x->1<=x.o:=iT (((Bal.refl (eF st)).put [40]).trans (Cs y false _));generalize ew [40] (eF st)=st2 at *;clear H1 hrow;go_wp2_with fail;refine c2.mono ?_;rintro e2 w2 ⟨rfl,o2,H2,s2⟩;have SK2:=SK1.stp s2;have Y2:=Y1.stp s2;have s2':=s1.trans s2;clear c2 s1 s2 E1 Y1 SK1;obtain⟨y0,y1,y2,y3,y4,yf⟩:=dS Y2.1;have c3:=IH y ak ck false wb st2 w2 o2 hN hy SK2 H2;rw[dU] at c3;generalize oEx y false st2=st3 at *;go_wp2_with fail;refine c3.mono ?_;rintro e2 w3 ⟨rfl,o3,H3,s3⟩;have s3':=s2'.trans s3;obtain⟨oo,d1,df,s4,H4⟩:=H3.lea hpos;have s4':=s3'.trans s4;generalize gY st3=st4 at *;clear c3 s3 s3' s2' s4 H3 H2 SK2 Y2 y0 y1 y2 y3 y4 yf hpos;go_upto_region 7 with fail;generalize w3.setCell ⟨wb,1,G0⟩ (.int .i64 (Io (oo-1)))=w4 at *;clear d1 df;have c5:=fG [41] H4 (by simp);go_wp2_with fail;refine c5.mono ?_;rintro e2 w5 ⟨rfl,o5,H5,s5⟩;have s5':=s4'.trans s5;clear c5 s5 s4' H4;go_wp2
  go_end0
  exact⟨rfl,o5,by rw[HF.out];exact H5,s5'⟩
 ·have hge:((md e.k i:Nat):Int)<=((gh y.k:Nat):Int):=by omega
  have HF:Hid (ib e y i st=oEx y (e.k==21&&decide (i=0)) st):=by show oE _ _ _ _ _ _ _ _=_;unfold oE;rw[if_neg hrow];rfl
  clear hrow;obtain⟨p0,p1,p2,p3,p4,pf⟩:=dS E1.1;obtain⟨y0,y1,y2,y3,y4,yf⟩:=dS Y1.1;by_cases h21:e.k=21
  ·have b21:(e.k==21)=true:=by simp[h21]
   by_cases h0:i=0
   ·have b0:((i:Int)==0)=true:=by simp[h0]
    have hset:(e.k==21&&decide (i=0))=true:=by simp[h21,h0]
    rw[hset] at HF;have c2:=IH y ak ck true wb st w1 o0 hN hy SK1 H1;rw[dU] at c2;generalize oEx y true st=st3 at *;clear h21 h0 hset;go_wp2_with fail;refine c2.mono ?_;rintro e2 w2 ⟨rfl,o2,H2,s2⟩;have s2':=s1.trans s2;clear c2 s1 s2 H1 SK1 E1 Y1 p0 p1 p2 p3 p4 pf y0 y1 y2 y3 y4 yf;go_wp2
    (try simp only[JU,KJ])
    refine Hb (Jq rfl _ _ _) rfl ?_;exact⟨rfl,o2,by rw[HF.out];exact H2,s2'⟩
   ·have b0:((i:Int)==0)=false:=by simp;omega
    have hset:(e.k==21&&decide (i=0))=false:=by simp[h0]
    rw[hset] at HF;have c2:=IH y ak ck false wb st w1 o0 hN hy SK1 H1;rw[dU] at c2;generalize oEx y false st=st3 at *;clear h21 h0 hset;go_wp2_with fail;refine c2.mono ?_;rintro e2 w2 ⟨rfl,o2,H2,s2⟩;have s2':=s1.trans s2;clear c2 s1 s2 H1 SK1 E1 Y1 p0 p1 p2 p3 p4 pf y0 y1 y2 y3 y4 yf;go_wp2
    (try simp only[JU,KJ])
    refine Hb (Jq rfl _ _ _) rfl ?_;exact⟨rfl,o2,by rw[HF.out];exact H2,s2'⟩
  ·have b21:(e.k==21)=false:=bne h21;have hset:(e.k==21&&decide (i=0))=false:=by simp[h21]
   rw[hset] at HF;have c2:=IH y ak ck false wb st w1 o0 hN hy SK1 H1;rw[dU] at c2;generalize oEx y false st=st3 at *;clear h21 hset;go_wp2_with fail;refine c2.mono ?_;rintro e2 w2 ⟨rfl,o2,H2,s2⟩;have s2':=s1.trans s2;clear c2 s1 s2 H1 SK1 E1 Y1 p0 p1 p2 p3 p4 pf y0 y1 y2 y3 y4 yf;go_wp2
   (try simp only[JU,KJ])
   refine Hb (Jq rfl _ _ _) rfl ?_;exact⟨rfl,o2,by rw[HF.out];exact H2,s2'⟩
theorem wk {w:G9}{o:Nat->Nat}{wb:Nat}{st:Ow}(h:WQ w o wb st):ew [] st=st:=by
 match st,h with
 | none,h=>rfl
 | some s,h =>
  have:=h.2.1
  simp only[ew,I8,J1];rw[if_neg (by omega)]
theorem oB (x:Ex)(r:Fs)(b:Bool)(g:Sep)(i:Nat)(s:Ow):oFs (Fs.ex x r) b g i s=oFs r false g (i+1) (oE x.k x.n x.nm x.kids.len b (g i).2 (λg s=>oFs x.kids (x.k==21) g 0 s) (ew (g i).1 s)):=rfl
theorem iD (e y:Ex)(i:Nat)(s:Ow){flag:Bool}{asked:Nat}(h1:flag=(e.k==21&&decide (i=0)))(h2:asked=md e.k i):oE y.k y.n y.nm y.kids.len flag asked (λg s=>oFs y.kids (y.k==21) g 0 s) s=ib e y i s:=by subst h1 h2;rfl
theorem iW (e y:Ex)(i:Nat)(s:Ow):Bal s (ib e y i s):=D7 (λg s=>lS _ _ _ _ _) s
theorem Fs.app_rng:∀ {x y:Fs},(x.app y).rng->y.rng
 | ⟨G0⟩,y,h=>h
 | ⟨G1 ⟨k,n,nm,a,ks,r⟩⟩,y,h=>Fs.app_rng h.2.2.2
theorem Ex.kidfit {e:Ex}(h:e.fit){x:Fs}{y:Ex}{r:Fs}(hk:e.kids=x.app (Fs.ex y r)):y.fit:=by
 have h1:(Fs.ex y r).short:=Fs.app_short (by rw[<-hk];exact h.sh);have h2:(Fs.ex y r).rng:=Fs.app_rng (by rw[<-hk];exact h.rng);exact⟨h1.1,h1.2.2.1,h1.2.1,h2.1,h2.2.1,h2.2.2.1⟩
theorem sH:∀ (x:Fs) (y:Ex) (r:Fs),x.app (Fs.ex y r)=(x.snoc y).app r
 | ⟨G0⟩,y,r=>by simp only[Fs.snoc,Fs.app,one];rfl
 | ⟨G1 ⟨k,n,nm,a,ks,rr⟩⟩,y,r=>by
  have:=sH rr y r
  simp only[Fs.snoc] at this ⊢;simp only[Fs.app];rw[this]
theorem rN {N:Nat}(IH:kh N)(e:Ex)(hek:e.k=20\/e.k=24\/e.k=25)(hN:e.kids.size<=N)(he:e.fit)(ao:Option Hw)(cap wb:Nat)(st:Ow)(w:G9)(o:Nat->Nat)(S:Sl w (L0 o) e.kids ao)(H:WQ w o wb st) :
  Hn G5 247 #[.pointer (G1 ⟨wb,0,G0⟩),exV e ao cap] w (i8 w o wb (oFs e.kids (e.k==21) jc 0 st)):=by
 have h21:(e.k==21)=false:=bne (by omega);have hask:∀ i,md e.k i=0:=λi=>by rcases hek with h|h|h<;>rw[h]<;>rfl
 rw[h21];obtain⟨W,hW⟩:∃W,W=oFs e.kids false jc 0 st:=⟨_,rfl⟩;rw[<-hW];have HW:Hid (oFs e.kids false jc 0 st=W):=hW.symm;have H21:Hid ((e.k==21)=false):=h21;have HA:Hid (∀ i,md e.k i=0):=hask;have hlen:=he.len;have s0:=ez (λ_=>False) w o (bxX e ao cap);have E0:Blk (w.alloc (bxX e ao cap)) (dQ w o 0) 0 w.heap.size (bxX e ao cap):=jK w o _ _;have S0:=S.stp0 s0;have H0:=H.stp0 s0;have T0:=s0.i12;clear hW h21 hask S H s0 hek;rw[dU];go_enter Tryz.func247,Tryz.ntmps247;go_upto_region 1 with fail;generalize w.alloc (bxX e ao cap)=w0 at *;generalize dQ w o 0=o0 at *;generalize w.heap.size=be at *;go_wp2_with fail;go_loopw [4] (λv wr=>∃(done r:Fs) (u:Ow) (o':Nat->Nat),Hid (e.kids=done.app r)/\v=.int .i64 (done.len:Nat)/\Hid (oFs r false jc done.len u=W)/\WQ wr o' wb u/\Blk wr o' 0 be (.cells #[.int .i64 e.k,.int .i64 e.n,stv e.nm,.slice ao e.kids.len cap,.int .i64 e.a] 25 (0,0))/\Sl wr (L0 o') e.kids ao/\as I12 w o wr o') (λv _=>e.kids.len-(Ih v).toNat)
 case atStart=>exact⟨.nil,e.kids,st,o0,rfl,by show _=Hp .i64 ((0:Nat):Int);rfl,HW,H0,E0,S0,T0⟩
 case round =>
  clear HW H0 E0 S0 T0;obtain⟨done,r,u,o3,hk,rfl,HU,H3,E3,S3,T3⟩:=hrel;have hlk:e.kids.len=done.len+r.len:=by rw[hk.out,Fs.len_app]
  obtain⟨p0,p1,p2,p3,p4,pf⟩:=dS E3.1;cases r using Fs.on with
  | nil =>
   have hl0:¬(done.len:Int)<(e.kids.len:Int):=by simp only[Fs.len] at hlk;omega
   have hu:u=W:=HU.out;subst hu;clear HU hlk;go_wp2
   go_end0
   exact⟨rfl,o3,H3,T3⟩
  | Js kk kn km ka kks kr =>
   have hl0:(done.len:Int)<(e.kids.len:Int):=by simp only[Fs.len] at hlk;omega
   obtain⟨c3,cf,-,-⟩:=H3.end;cases u with
   | none =>
    have hu:W=G0:=by rw[<-HU.out];exact mA _ _ _ _
    have c3:wr.cell? ⟨wb,3,G0⟩=G1 (.bool false):=c3;subst hu;clear HU hlk;go_wp2
    go_end0
    exact⟨rfl,o3,H3,T3⟩
   | some u0 =>
    have c3:wr.cell? ⟨wb,3,G0⟩=G1 (.bool true):=c3;obtain⟨y,hy⟩:∃y:Ex,y=⟨kk,kn,km,ka,kks⟩:=⟨_,rfl⟩;have hk2:e.kids=done.app (Fs.ex y kr):=by rw[hk.out,hy];rfl
    have hyf:y.fit:=Ex.kidfit he hk2;have hyN:y.kids.size<N:=by
     have:e.kids.size=done.size+(y.kids.size+kr.size+1):=by rw[hk2,Fs.size_app];rfl
     omega
    have HU2:Hid (oFs kr false jc (done.len+1) (ib e y done.len (ew (jc done.len).1 (G1 u0)))=W):=by
     show _=W;rw[<-HU.out,<-iD e y done.len _ (flag:=false) (asked:=0) (by rw[H21.out];rfl) (HA.out _).symm,hy];rfl
    have HK9:Hid (e.kids=(done.snoc y).app kr):=by show _=_;rw[hk2,sH]
    have hlen1:done.len+1<=1000000000:=by simp only[Fs.len] at hlk;omega
    have HK2:=Hg hk2;clear HU hy hlk hk2;by_cases hd:done.len=0
    ·have hd0:¬(0:Int)<(done.len:Int):=by omega
     have HU3:Hid (oFs kr false jc (done.len+1) (ib e y done.len (G1 u0))=W):=by
      show _=W;rw[<-HU2.out]
      have:(jc done.len).1=[]:=by unfold jc;simp[hd]
      rw[this,wk H3]
     have c5:=jx IH e y done kr HK2.out done.len rfl (by omega) hyN hyf ao cap wb _ wr o3 S3 H3;rw[dU] at c5;clear HU2 hd hyf hyN;generalize ib e y done.len (G1 u0)=u5 at *;go_wp2_with fail;refine c5.mono ?_;rintro e2 w5 ⟨rfl,o5,H5,s5⟩;have T5:=T3.trans s5;have S5:=S3.stp s5;have E5:=E3.stp s5;clear c5 H3 T3 S3 E3 s5 p0 p1 p2 p3 p4 pf c3 cf;go_wp2;go_roundw
     case rel=>(try ((repeat apply Hv);refine⟨?_,rfl⟩));exact⟨done.snoc y,kr,u5,o5,HK9,by rw[Fs.len_snoc];go_num,by rw[Fs.len_snoc];exact HU3,H5,E5,S5,T5⟩
     case measure=>simp[Ih];omega
    ·have hd0:(0:Int)<(done.len:Int):=by omega
     have hcs:(jc done.len).1=[44,32]:=by unfold jc;simp[hd]
     rw[hcs] at HU2;have c4:=fG [44,32] H3 (by simp);generalize ew [44,32] (G1 u0)=u4 at *;clear hd hcs;go_wp2_with fail;refine c4.mono ?_;rintro e2 w4 ⟨rfl,o4,H4,s4⟩;have T4:=T3.trans s4;have S4:=S3.stp s4;have E4:=E3.stp s4;clear c4 H3 T3 S3 E3 s4 p0 p1 p2 p3 p4 pf c3 cf;obtain⟨p0,p1,p2,p3,p4,pf⟩:=dS E4.1;have c5:=jx IH e y done kr HK2.out done.len rfl (by omega) hyN hyf ao cap wb _ w4 o4 S4 H4;rw[dU] at c5;clear hyf hyN;generalize ib e y done.len u4=u5 at *;go_wp2_with fail;refine c5.mono ?_;rintro e2 w5 ⟨rfl,o5,H5,s5⟩;have T5:=T4.trans s5;have S5:=S4.stp s5;have E5:=E4.stp s5;clear c5 H4 T4 S4 E4 s5 p0 p1 p2 p3 p4 pf;go_wp2;go_roundw
     case rel=>(try ((repeat apply Hv);refine⟨?_,rfl⟩));exact⟨done.snoc y,kr,u5,o5,HK9,by rw[Fs.len_snoc];go_num,by rw[Fs.len_snoc];exact HU2,H5,E5,S5,T5⟩
     case measure=>simp[Ih];omega
theorem xX (l m:List UInt8):(⟨l.toArray⟩:ByteArray)++⟨m.toArray⟩=⟨(l++m).toArray⟩:=by
 apply ByteArray.ext;simp
theorem Av {N:Nat}(IH:kh N)(e:Ex)(hNk:e.kids.size<=N)(he:e.fit)(ao:Option Hw)(cap wb:Nat)(st:Ow)(w:G9)(o:Nat->Nat)(S:Sl w (L0 o) e.kids ao)(H:WQ w o wb st)(hk:e.k=19)(hl:e.kids.len=3) :
  Hn G5 233 #[.pointer (G1 ⟨wb,0,G0⟩),exV e ao cap] w (i8 w o wb (eP e.k e.n e.nm (λg s=>oFs e.kids (e.k==21) g 0 s) st)):=by
 obtain⟨x,y,z,hks⟩:=CS hl;have hk0:Hid (e.kids=Fs.app .nil (Fs.ex x (Fs.ex y (Fs.ex z .nil)))):=hks;have hk1:Hid (e.kids=Fs.app (one x) (Fs.ex y (Fs.ex z .nil))):=by show _=_;rw[hks];rfl
 have hk2:Hid (e.kids=Fs.app ((one x).snoc y) (Fs.ex z .nil)):=by show _=_;rw[hks];rfl
 have hsz:e.kids.size=x.kids.size+(y.kids.size+(z.kids.size+0+1)+1)+1:=by rw[hks];rfl
 have hNx:x.kids.size<N:=by omega
 have hNy:y.kids.size<N:=by omega
 have hNz:z.kids.size<N:=by omega
 have hfx:=Ex.kidfit he hk0.out;have hfy:=Ex.kidfit he hk1.out;have hfz:=Ex.kidfit he hk2.out;have HF:Hid (eP e.k e.n e.nm (λg s=>oFs e.kids (e.k==21) g 0 s) st=gY (ib e z 2 (ew [32,101,108,115,101,32] (ib e y 1 (ew [32,116,104,101,110,32] (ib e x 0 (ew [105,102,32] (eF st)))))))):=by
  show _=_;unfold eP;rw[if_neg (by omega),if_neg (by omega),if_pos hk];simp only[hks,oB];rw[iD e x 0 _ (by rw[hk];rfl) (by rw[hk];rfl),iD e y 1 _ (by rw[hk];rfl) (by rw[hk];rfl),iD e z 2 _ (by rw[hk];rfl) (by rw[hk];rfl)];rfl
 have b19:(e.k==19)=true:=by simp[hk]
 clear hks hk hl hsz;have s0:=ez (λ_=>False) w o (bxX e ao cap);have E0:Blk (w.alloc (bxX e ao cap)) (dQ w o 0) 0 w.heap.size (bxX e ao cap):=jK w o _ _;have S0:=S.stp0 s0;have H0:=H.stp0 s0;have T0:=s0.i12;clear S H s0;rw[dU];go_enter Tryz.func233,Tryz.ntmps233;go_upto_region 1 with fail;generalize w.alloc (bxX e ao cap)=w0 at *;generalize dQ w o 0=o0 at *;generalize w.heap.size=be at *;obtain⟨p0,p1,p2,p3,p4,pf⟩:=dS E0.1;have c1:=jo [105,102,32] H0 (by simp);have hb1:Bal (eF st) (ew [105,102,32] (eF st)):=(Bal.refl _).put [105,102,32];have hp:Hid (∀ s,Bal (eF st) s->∀ x,s=G1 x->1<=x.o):=λs h=>iT h;generalize ew [105,102,32] (eF st)=st1 at *;generalize eF st=se at *;go_wp2_with fail;refine c1.mono ?_;rintro e2 w1 ⟨rfl,o1,H1,s1⟩;have T1:=T0.trans s1;have S1:=S0.stp s1;have E1:=E0.stp s1;clear c1 H0 T0 S0 E0 s1 p0 p1 p2 p3 p4 pf;obtain⟨p0,p1,p2,p3,p4,pf⟩:=dS E1.1;have c2:=jx IH e x .nil (Fs.ex y (Fs.ex z .nil)) hk0.out 0 rfl (by omega) (hNx) (hfx) ao cap wb st1 w1 o1 S1 H1;rw[dU] at c2;have hb2:=hb1.trans (iW e x 0 st1);generalize ib e x 0 st1=st2 at *;go_wp2_with fail;refine c2.mono ?_;rintro e2 w2 ⟨rfl,o2,H2,s2⟩;have T2:=T1.trans s2;have S2:=S1.stp s2;have E2:=E1.stp s2;clear c2 H1 T1 S1 E1 s2 p0 p1 p2 p3 p4 pf hb1;obtain⟨p0,p1,p2,p3,p4,pf⟩:=dS E2.1;have c3:=fG [32,116,104,101,110,32] H2 (by simp);have hb3:=hb2.put [32,116,104,101,110,32];generalize ew [32,116,104,101,110,32] st2=st3 at *;go_wp2_with fail;refine c3.mono ?_;rintro e2 w3 ⟨rfl,o3,H3,s3⟩;have T3:=T2.trans s3;have S3:=S2.stp s3;have E3:=E2.stp s3;clear c3 H2 T2 S2 E2 s3 p0 p1 p2 p3 p4 pf hb2;obtain⟨p0,p1,p2,p3,p4,pf⟩:=dS E3.1;have c4:=jx IH e y (one x) (Fs.ex z .nil) hk1.out 1 rfl (by omega) (hNy) (hfy) ao cap wb st3 w3 o3 S3 H3;rw[dU] at c4;have hb4:=hb3.trans (iW e y 1 st3);generalize ib e y 1 st3=st4 at *;go_wp2_with fail;refine c4.mono ?_;rintro e2 w4 ⟨rfl,o4,H4,s4⟩;have T4:=T3.trans s4;have S4:=S3.stp s4;have E4:=E3.stp s4;clear c4 H3 T3 S3 E3 s4 p0 p1 p2 p3 p4 pf hb3;obtain⟨p0,p1,p2,p3,p4,pf⟩:=dS E4.1;have c5:=fG [32,101,108,115,101,32] H4 (by simp);have hb5:=hb4.put [32,101,108,115,101,32];generalize ew [32,101,108,115,101,32] st4=st5 at *;go_wp2_with fail;refine c5.mono ?_;rintro e2 w5 ⟨rfl,o5,H5,s5⟩;have T5:=T4.trans s5;have S5:=S4.stp s5;have E5:=E4.stp s5;clear c5 H4 T4 S4 E4 s5 p0 p1 p2 p3 p4 pf hb4;obtain⟨p0,p1,p2,p3,p4,pf⟩:=dS E5.1;have c6:=jx IH e z ((one x).snoc y) .nil hk2.out 2 rfl (by omega) (hNz) (hfz) ao cap wb st5 w5 o5 S5 H5;rw[dU] at c6;have hb6:=hb5.trans (iW e z 2 st5);generalize ib e z 2 st5=st6 at *;go_wp2_with fail;refine c6.mono ?_;rintro e2 w6 ⟨rfl,o6,H6,s6⟩;have T6:=T5.trans s6;have S6:=S5.stp s6;have E6:=E5.stp s6;clear c6 H5 T5 S5 E5 s6 p0 p1 p2 p3 p4 pf hb5;obtain⟨p0,p1,p2,p3,p4,pf⟩:=dS E6.1;obtain⟨oo7,dd7,df7,s7,H7⟩:=H6.lea (hp.out _ hb6);generalize gY st6=st7 at *;have T7:=T6.trans s7;have S7:=S6.stp s7;have E7:=E6.stp s7;go_wp2;generalize w6.setCell ⟨wb,1,G0⟩ (.int .i64 (Io (oo7-1)))=w7 at *;clear dd7 df7 H6 T6 S6 E6 s7 p0 p1 p2 p3 p4 pf hp hb6;generalize o6=o7 at *;obtain⟨p0,p1,p2,p3,p4,pf⟩:=dS E7.1
 go_end0
 exact⟨rfl,o7,by rw[HF.out];exact H7,T7⟩
theorem rJ {N:Nat}(IH:kh N)(e:Ex)(hNk:e.kids.size<=N)(he:e.fit)(ao:Option Hw)(cap wb:Nat)(st:Ow)(w:G9)(o:Nat->Nat)(S:Sl w (L0 o) e.kids ao)(H:WQ w o wb st)(hk:e.k=24) :
  Hn G5 233 #[.pointer (G1 ⟨wb,0,G0⟩),exV e ao cap] w (i8 w o wb (eP e.k e.n e.nm (λg s=>oFs e.kids (e.k==21) g 0 s) st)):=by
 have hek:e.k=20\/e.k=24\/e.k=25:=by omega
 have HF:Hid (eP e.k e.n e.nm (λg s=>oFs e.kids (e.k==21) g 0 s) st=ew [41] (gY (oFs e.kids (e.k==21) jc 0 (ew [40] (eF (ew [97,114,111,117,110,100] st)))))):=by
  show _=_;unfold eP;rw[if_neg (by omega),if_neg (by omega),if_neg (by omega),if_neg (by omega),if_neg (by omega),if_pos hk];rfl
 have b19:(e.k==19)=false:=bne (by omega);have b21:(e.k==21)=false:=bne (by omega);have b20:(e.k==20)=false:=bne (by omega);have b24:(e.k==24)=true:=by simp[hk]
 have HEK:=Hg hek;clear hk hek;have s0:=ez (λ_=>False) w o (bxX e ao cap);have E0:Blk (w.alloc (bxX e ao cap)) (dQ w o 0) 0 w.heap.size (bxX e ao cap):=jK w o _ _;have S0:=S.stp0 s0;have H0:=H.stp0 s0;have T0:=s0.i12;clear S H s0;rw[dU];go_enter Tryz.func233,Tryz.ntmps233;go_upto_region 1 with fail;generalize w.alloc (bxX e ao cap)=w0 at *;generalize dQ w o 0=o0 at *;generalize w.heap.size=be at *;obtain⟨p0,p1,p2,p3,p4,pf⟩:=dS E0.1;have c1:=fG [97,114,111,117,110,100] H0 (by simp);generalize ew [97,114,111,117,110,100] st=st1 at *;go_wp2_with fail;refine c1.mono ?_;rintro e2 w1 ⟨rfl,o1,H1,s1⟩;have T1:=T0.trans s1;have S1:=S0.stp s1;have E1:=E0.stp s1;clear c1 H0 T0 S0 E0 s1 p0 p1 p2 p3 p4 pf;obtain⟨p0,p1,p2,p3,p4,pf⟩:=dS E1.1;have c2:=jo [40] H1 (by simp);have hb2:Bal (eF st1) (ew [40] (eF st1)):=(Bal.refl _).put [40];have hp:Hid (∀ s,Bal (eF st1) s->∀ x,s=G1 x->1<=x.o):=λs h=>iT h;generalize ew [40] (eF st1)=st2 at *;generalize eF st1=se at *;go_wp2_with fail;refine c2.mono ?_;rintro e2 w2 ⟨rfl,o2,H2,s2⟩;have T2:=T1.trans s2;have S2:=S1.stp s2;have E2:=E1.stp s2;clear c2 H1 T1 S1 E1 s2 p0 p1 p2 p3 p4 pf;obtain⟨p0,p1,p2,p3,p4,pf⟩:=dS E2.1;have hek:=HEK.out;have c3:=rN IH e hek hNk he ao cap wb st2 w2 o2 S2 H2;rw[dU] at c3;have hb3:=hb2.trans (lS e.kids (e.k==21) jc 0 st2);generalize oFs e.kids (e.k==21) jc 0 st2=st3 at *;go_wp2_with fail;refine c3.mono ?_;rintro e2 w3 ⟨rfl,o3,H3,s3⟩;have T3:=T2.trans s3;have S3:=S2.stp s3;have E3:=E2.stp s3;clear c3 H2 T2 S2 E2 s3 p0 p1 p2 p3 p4 pf hb2;obtain⟨p0,p1,p2,p3,p4,pf⟩:=dS E3.1;clear hek;obtain⟨oo4,dd4,df4,s4,H4⟩:=H3.lea (hp.out _ hb3);generalize gY st3=st4 at *;have T4:=T3.trans s4;have S4:=S3.stp s4;have E4:=E3.stp s4;go_upto_region 35 with fail;generalize w3.setCell ⟨wb,1,G0⟩ (.int .i64 (Io (oo4-1)))=w4 at *;clear dd4 df4 H3 T3 S3 E3 s4 p0 p1 p2 p3 p4 pf hp hb3;generalize o3=o4 at *;obtain⟨p0,p1,p2,p3,p4,pf⟩:=dS E4.1;have c5:=fG [41] H4 (by simp);generalize ew [41] st4=st5 at *;go_wp2_with fail;refine c5.mono ?_;rintro e2 w5 ⟨rfl,o5,H5,s5⟩;have T5:=T4.trans s5;have S5:=S4.stp s5;have E5:=E4.stp s5;clear c5 H4 T4 S4 E4 s5 p0 p1 p2 p3 p4 pf;obtain⟨p0,p1,p2,p3,p4,pf⟩:=dS E5.1;go_wp2
 go_end0
 exact⟨rfl,o5,by rw[HF.out];exact H5,T5⟩
theorem vA {N:Nat}(IH:kh N)(e:Ex)(hNk:e.kids.size<=N)(he:e.fit)(ao:Option Hw)(cap wb:Nat)(st:Ow)(w:G9)(o:Nat->Nat)(S:Sl w (L0 o) e.kids ao)(H:WQ w o wb st)(hk:e.k=25) :
  Hn G5 233 #[.pointer (G1 ⟨wb,0,G0⟩),exV e ao cap] w (i8 w o wb (eP e.k e.n e.nm (λg s=>oFs e.kids (e.k==21) g 0 s) st)):=by
 have hek:e.k=20\/e.k=24\/e.k=25:=by omega
 have HF:Hid (eP e.k e.n e.nm (λg s=>oFs e.kids (e.k==21) g 0 s) st=ew [125] (gY (oFs e.kids (e.k==21) jc 0 (ew [123] (eF st))))):=by
  show _=_;unfold eP;rw[if_neg (by omega),if_neg (by omega),if_neg (by omega),if_neg (by omega),if_neg (by omega),if_neg (by omega),if_pos hk];rfl
 have b19:(e.k==19)=false:=bne (by omega);have b21:(e.k==21)=false:=bne (by omega);have b20:(e.k==20)=false:=bne (by omega);have b24:(e.k==24)=false:=bne (by omega);have HEK:=Hg hek;clear hk hek;have s0:=ez (λ_=>False) w o (bxX e ao cap);have E0:Blk (w.alloc (bxX e ao cap)) (dQ w o 0) 0 w.heap.size (bxX e ao cap):=jK w o _ _;have S0:=S.stp0 s0;have H0:=H.stp0 s0;have T0:=s0.i12;clear S H s0;rw[dU];go_enter Tryz.func233,Tryz.ntmps233;go_upto_region 1 with fail;generalize w.alloc (bxX e ao cap)=w0 at *;generalize dQ w o 0=o0 at *;generalize w.heap.size=be at *;obtain⟨p0,p1,p2,p3,p4,pf⟩:=dS E0.1;have c1:=jo [123] H0 (by simp);have hb1:Bal (eF st) (ew [123] (eF st)):=(Bal.refl _).put [123];have hp:Hid (∀ s,Bal (eF st) s->∀ x,s=G1 x->1<=x.o):=λs h=>iT h;generalize ew [123] (eF st)=st1 at *;generalize eF st=se at *;go_wp2_with fail;refine c1.mono ?_;rintro e2 w1 ⟨rfl,o1,H1,s1⟩;have T1:=T0.trans s1;have S1:=S0.stp s1;have E1:=E0.stp s1;clear c1 H0 T0 S0 E0 s1 p0 p1 p2 p3 p4 pf;obtain⟨p0,p1,p2,p3,p4,pf⟩:=dS E1.1;have hek:=HEK.out;have c2:=rN IH e hek hNk he ao cap wb st1 w1 o1 S1 H1;rw[dU] at c2;have hb2:=hb1.trans (lS e.kids (e.k==21) jc 0 st1);generalize oFs e.kids (e.k==21) jc 0 st1=st2 at *;go_wp2_with fail;refine c2.mono ?_;rintro e2 w2 ⟨rfl,o2,H2,s2⟩;have T2:=T1.trans s2;have S2:=S1.stp s2;have E2:=E1.stp s2;clear c2 H1 T1 S1 E1 s2 p0 p1 p2 p3 p4 pf hb1;obtain⟨p0,p1,p2,p3,p4,pf⟩:=dS E2.1;clear hek;obtain⟨oo3,dd3,df3,s3,H3⟩:=H2.lea (hp.out _ hb2);generalize gY st2=st3 at *;have T3:=T2.trans s3;have S3:=S2.stp s3;have E3:=E2.stp s3;go_upto_region 5 with fail;generalize w2.setCell ⟨wb,1,G0⟩ (.int .i64 (Io (oo3-1)))=w3 at *;clear dd3 df3 H2 T2 S2 E2 s3 p0 p1 p2 p3 p4 pf hp hb2;generalize o2=o3 at *;obtain⟨p0,p1,p2,p3,p4,pf⟩:=dS E3.1;have c4:=fG [125] H3 (by simp);generalize ew [125] st3=st4 at *;go_wp2_with fail;refine c4.mono ?_;rintro e2 w4 ⟨rfl,o4,H4,s4⟩;have T4:=T3.trans s4;have S4:=S3.stp s4;have E4:=E3.stp s4;clear c4 H3 T3 S3 E3 s4 p0 p1 p2 p3 p4 pf;obtain⟨p0,p1,p2,p3,p4,pf⟩:=dS E4.1;go_wp2
 go_end0
 exact⟨rfl,o4,by rw[HF.out];exact H4,T4⟩
theorem GC {n:Int}(h:1<=n/\n<=10):cwL[(n-1).toNat]?=G1 (kj n):=by
 have:n=1\/n=2\/n=3\/n=4\/n=5\/n=6\/n=7\/n=8\/n=9\/n=10:=by omega
 rcases this with rfl|rfl|rfl|rfl|rfl|rfl|rfl|rfl|rfl|rfl<;>rfl
theorem Gh {n:Int}(h:1<=n/\n<=6):qwL[(n-1).toNat]?=G1 (jX n):=by
 have:n=1\/n=2\/n=3\/n=4\/n=5\/n=6:=by omega
 rcases this with rfl|rfl|rfl|rfl|rfl|rfl<;>rfl
theorem tU {N:Nat}(IH:kh N)(e:Ex)(U:e.kids.size<=N)(he:e.fit)(ao:Option Hw)(cap wb:Nat)(st:Ow)(w:G9)(o:Nat->Nat)(S:Sl w (L0 o) e.kids ao)(H:WQ w o wb st)(T:e.k=20)(hn:1<=e.n/\e.n<=10) :
  Hn G5 233 #[.pointer (G1 ⟨wb,0,G0⟩),exV e ao cap] w (i8 w o wb (eP e.k e.n e.nm (λg s=>oFs e.kids (e.k==21) g 0 s) st)):=by
 have d:e.k=20\/e.k=24\/e.k=25:=by omega
 have HF:Hid (eP e.k e.n e.nm (λg s=>oFs e.kids (e.k==21) g 0 s) st=ew [41] (gY (oFs e.kids (e.k==21) jc 0 (ew [40] (eF (ew (kj e.n) st)))))):=by
  show _=_;unfold eP;rw[if_neg (by omega),if_neg (by omega),if_neg (by omega),if_neg (by omega),if_pos T];rfl
 have ag:(e.k==19)=false:=bne (by omega);have ae:(e.k==21)=false:=bne (by omega);have af:(e.k==20)=true:=by simp[T]
 have Y:=Hg d;have r:=GC hn;obtain⟨j,hj⟩:=exq ((e.n-1).toNat);rw[<-hj] at r;have ab:IntKind.i64.wrap (e.n-1)=(j:Int):=by rw[II];omega
 have ad:j<10:=by omega
 have ac:(j:Int)<10:=by omega
 have HP:Hid (∀ wx t,WQ wx t wb st->Hn G5 229 #[.pointer (G1 ⟨wb,0,G0⟩),stv (kj e.n)] wx (i8 wx t wb (ew (kj e.n) st))):=λwx t h=>fG _ h (by have:=yr e.n;omega);generalize ew (kj e.n) st=c at *;generalize kj e.n=cw at *;have Z:=Hg r;clear T d hn hj r;have s0:=ez (λ_=>False) w o (bxX e ao cap);have O:Blk (w.alloc (bxX e ao cap)) (dQ w o 0) 0 w.heap.size (bxX e ao cap):=jK w o _ _;have S0:=S.stp0 s0;have H0:=H.stp0 s0;have T0:=s0.i12;clear S H s0;rw[dU];go_enter Tryz.func233,Tryz.ntmps233;go_upto_region 1 with fail;generalize w.alloc (bxX e ao cap)=w0 at *;generalize dQ w o 0=o0 at *;generalize w.heap.size=u at *;have f:Hid (∀ wx t,Blk wx t 0 u (bxX e ao cap)->wx.cell? ⟨u,1,G0⟩=G1 (.int .i64 e.n)):=λwx t h=>(dS h.1).2.1;have B:Blk w0.drew o0 0 u (bxX e ao cap):=O;obtain⟨p0,p1,p2,p3,p4,l⟩:=dS O.1;go_upto_region 25 with fail;go_cut [105] (λv wx=>∃q,WQ wx q wb c/\Blk wx q 0 u (bxX e ao cap)/\Sl wx (L0 q) e.kids ao/\as I12 w o wx q)
 case first =>
  refine wp_region_held_drew (S:=λwx=>wx.cell? ⟨u,1,G0⟩=G1 (.int .i64 e.n)) (by kernel_rfl) (f.out _ _ B) (λb=>?_);refine Iy (i:=0) (v:=?v1) rfl (by kernel_rfl) (by kernel_rfl) (by kernel_rfl) (λ_ _ _ h=>h) (Jp ⟨by rfl,?hy1⟩) (by assumption) ?rest1
  case hy1=>(intro w a;(try dsimp only at a);go_simp;all_goals (with_reducible rfl))
  simp only[IQ,Hz,Hr,Hs,Hq,Ic,Id];refine Iy (i:=2) (v:=?v2) rfl (by kernel_rfl) (by kernel_rfl) (by kernel_rfl) (λ_ _ _ h=>h) (Jp ⟨by rfl,?hy2⟩) (by assumption) ?rest2
  case hy2=>(intro w a;(try dsimp only at a);go_simp;all_goals (with_reducible rfl))
  simp only[IQ,Hz,Hr,Hs,Hq,Ic,Id];refine Iy (i:=3) (v:=?v3) rfl (by kernel_rfl) (by kernel_rfl) (by kernel_rfl) (λ_ _ _ h=>h) (Jp ⟨by rfl,?hy3⟩) (by assumption) ?rest3
  case hy3=>(intro w a;(try dsimp only at a);go_simp;all_goals (with_reducible rfl))
  simp only[IQ,Hz,Hr,Hs,Hq,Ic,Id];refine Iy (i:=4) (v:=?v4) rfl (by kernel_rfl) (by kernel_rfl) (by kernel_rfl) (λ_ _ _ h=>h) (Jp ⟨by rfl,?hy4⟩) (by assumption) ?rest4
  case hy4=>(intro w a;(try dsimp only at a);go_simp;all_goals (with_reducible rfl))
  simp only[IQ,Hz,Hr,Hs,Hq,Ic,Id];refine JJ (rs:=[1]) (by kernel_rfl) (by simp) ?_;refine Js rfl (λK m=>?_) JC
  go_simp
  go_wp2_with ((go_at_call 158;refine(wP _).mono ?_;rintro I w1 ⟨g1,rfl,WL⟩;have C:as (λ_=>False) w0 o0 w1 o0:=(as.refl _ w0 o0).drew.trans (as.ofB o0 WL.1);have E1:Blk w1 o0 0 u (bxX e ao cap):=O.step C id;have H1:=H0.stp0 C;have S1:=S0.stp0 C;have T1:=T0.trans C.i12;have ix:=WL.2.2.2 j _ Z.out));refine m.out _ _ (f.out _ _ E1) (λb=>?_);clear m K;refine Iy (i:=5) (v:=?v5) rfl (by kernel_rfl) (by kernel_rfl) (by kernel_rfl) (λ_ _ _ h=>h) (Jp ⟨by rfl,?hy5⟩) (by assumption) ?rest5
  case hy5=>(intro w a;(try dsimp only at a);go_simp;all_goals (with_reducible rfl))
  simp only[IQ,Hz,Hr,Hs,Hq,Ic,Id];refine JJ (rs:=[6]) (by kernel_rfl) (by simp) ?_;refine Js rfl (λK m=>?_) JC
  go_simp
  refine m.out _ _ (f.out _ _ E1) (λb=>?_);clear m K;refine JJ (rs:=[7]) (by kernel_rfl) (by simp) ?_;refine Js rfl (λK m=>?_) JC
  go_simp
  go_wp2_with ((go_at_call 229;refine(HP.out _ _ H1).mono ?_;rintro I w2 ⟨rfl,q,M,s2⟩;have y:=E1.stp s2;have L:=S1.stp s2;have J:=T1.trans s2));refine m.out _ _ (f.out _ _ y) (λb=>?_);clear m K;refine wpAnyH_done (by kernel_rfl) ?_ _;go_wp2;go_meet;exact⟨q,M,y,L,J⟩
 case rest =>
 obtain⟨q,M,y,L,J⟩:=hcut;obtain⟨w2,rfl⟩:=exq wc;clear H0 S0 T0 O B HP f p0 p1 p2 p3 p4 l;obtain⟨p0,p1,p2,p3,p4,l⟩:=dS y.1;have c3:=jo [40] M (by simp);have A:Bal (eF c) (ew [40] (eF c)):=(Bal.refl _).put [40];have hp:Hid (∀ s,Bal (eF c) s->∀ x,s=G1 x->1<=x.o):=λs h=>iT h;generalize ew [40] (eF c)=p at *;generalize eF c=se at *;go_wp2_with fail;refine c3.mono ?_;rintro I w3 ⟨rfl,o3,H3,G⟩;have T3:=J.trans G;have X:=L.stp G;have E3:=y.stp G;clear c3 M J L y G p0 p1 p2 p3 p4 l;obtain⟨p0,p1,p2,p3,p4,l⟩:=dS E3.1;have d:=Y.out;have c4:=rN IH e d U he ao cap wb p w3 o3 X H3;rw[dU] at c4;have z:=A.trans (lS e.kids (e.k==21) jc 0 p);generalize oFs e.kids (e.k==21) jc 0 p=Q at *;go_wp2_with fail;refine c4.mono ?_;rintro I w4 ⟨rfl,o4,H4,F⟩;have T4:=T3.trans F;have S4:=X.stp F;have E4:=E3.stp F;clear c4 H3 T3 X E3 F p0 p1 p2 p3 p4 l A;obtain⟨p0,p1,p2,p3,p4,l⟩:=dS E4.1;clear d;obtain⟨R,W,V,E,H5⟩:=H4.lea (hp.out _ z);generalize gY Q=P at *;have T5:=T4.trans E;have S5:=S4.stp E;have E5:=E4.stp E;go_upto_region 29 with fail;generalize w4.setCell ⟨wb,1,G0⟩ (.int .i64 (Io (R-1)))=w5 at *;clear W V H4 T4 S4 E4 E p0 p1 p2 p3 p4 l hp z;generalize o4=o5 at *;obtain⟨p0,p1,p2,p3,p4,l⟩:=dS E5.1;have c6:=fG [41] H5 (by simp);generalize ew [41] P=aa at *;go_wp2_with fail;refine c6.mono ?_;rintro I w6 ⟨rfl,o6,H6,D⟩;have T6:=T5.trans D;have S6:=S5.stp D;have E6:=E5.stp D;clear c6 H5 T5 S5 E5 D p0 p1 p2 p3 p4 l;obtain⟨p0,p1,p2,p3,p4,l⟩:=dS E6.1;go_wp2
 go_end0
 exact⟨rfl,o6,by rw[HF.out];exact H6,T6⟩
theorem tM {N:Nat}(IH:kh N)(e:Ex)(aO:e.kids.size<=N)(he:e.fit)(ao:Option Hw)(cap wb:Nat)(st:Ow)(w:G9)(o:Nat->Nat)(S:Sl w (L0 o) e.kids ao)(H:WQ w o wb st)(hk:e.k=21)(hn:1<=e.n/\e.n<=6)(hl:e.kids.len=2)(aJ:e.nm.length<=12) :
  Hn G5 233 #[.pointer (G1 ⟨wb,0,G0⟩),exV e ao cap] w (i8 w o wb (eP e.k e.n e.nm (λg s=>oFs e.kids (e.k==21) g 0 s) st)):=by
 obtain⟨x,y,R⟩:=jG hl;have am:Hid (e.kids=Fs.app .nil (Fs.ex x (Fs.ex y .nil))):=R;have al:Hid (e.kids=Fs.app (one x) (Fs.ex y .nil)):=by show _=_;rw[R];rfl
 have aE:e.kids.size=x.kids.size+(y.kids.size+0+1)+1:=by rw[R];rfl
 have az:x.kids.size<N:=by omega
 have ay:y.kids.size<N:=by omega
 have aw:=Ex.kidfit he am.out;have av:=Ex.kidfit he al.out;have HF:Hid (eP e.k e.n e.nm (λg s=>oFs e.kids (e.k==21) g 0 s) st=tG (gY (ib e y 1 (ew [58,32] (ib e x 0 (ew (jX e.n++[32]++e.nm++[32,105,110,32]) (eF (j8 st)))))))):=by
  show _=_;unfold eP;rw[if_neg (by omega),if_neg (by omega),if_neg (by omega),if_pos hk];simp only[R,oB];rw[iD e x 0 _ (by rw[hk];rfl) (by rw[hk];rfl),iD e y 1 _ (by rw[hk];rfl) (by rw[hk];rfl)];rfl
 have aQ:(e.k==19)=false:=bne (by omega);have aP:(e.k==21)=true:=by simp[hk]
 have ak:=Gh hn;obtain⟨j,hj⟩:=exq ((e.n-1).toNat);rw[<-hj] at ak;have aH:IntKind.i64.wrap (e.n-1)=(j:Int):=by rw[II];omega
 have aN:j<6:=by omega
 have aM:(j:Int)<6:=by omega
 have aI:=xC e.n;have HO:Hid (∀ wx u (su:Ow),WQ wx u wb su->Hn G5 231 #[.pointer (G1 ⟨wb,0,G0⟩),.string (⟨(jX e.n).toArray⟩++⟨#[32]⟩++⟨e.nm.toArray⟩++⟨#[32,105,110,32]⟩)] wx (i8 wx u wb (ew (jX e.n++[32]++e.nm++[32,105,110,32]) (eF su)))):=λwx u su h=>by
  have h9:=jo (jX e.n++[32]++e.nm++[32,105,110,32]) h (by simp only[Hx,Hy,I8];omega);have e9:(⟨(jX e.n).toArray⟩++⟨#[32]⟩++⟨e.nm.toArray⟩++⟨#[32,105,110,32]⟩:ByteArray)=⟨(jX e.n++[32]++e.nm++[32,105,110,32]).toArray⟩:=by
   rw[<-xX,<-xX,<-xX]
  rw[e9];exact h9
 have aL:=jV (jX e.n);have aK:=jV e.nm;have HQ:=Hg ak;generalize jX e.n=qw at *;clear R hk hl aE hj ak hn;have s0:=ez (λ_=>False) w o (bxX e ao cap);have E0:Blk (w.alloc (bxX e ao cap)) (dQ w o 0) 0 w.heap.size (bxX e ao cap):=jK w o _ _;have S0:=S.stp0 s0;have H0:=H.stp0 s0;have T0:=s0.i12;clear S H s0;rw[dU];go_enter Tryz.func233,Tryz.ntmps233;go_upto_region 1 with fail;generalize w.alloc (bxX e ao cap)=w0 at *;generalize dQ w o 0=o0 at *;generalize w.heap.size=B at *;have aC:Hid (∀ s,Bal (j8 st) s->∀ x,s=G1 x->1<=x.q):=λs h=>Cf h;obtain⟨qq,c2,cf,L,hh⟩:=H0.qen;have ax:=H0.end.1;generalize j8 st=l at *;obtain⟨p0,p1,p2,p3,p4,c⟩:=dS E0.1;obtain⟨w4,F⟩:=exq (w0.setCell ⟨wb,2,G0⟩ (.int .i64 (Io (qq+1))));have d2:w4.cell? ⟨wb,2,G0⟩=G1 (.int .i64 (Io (qq+1))):=by rw[F];exact World.cell?_setCell_same _ _ _ c2
 have df:∀ j,w4.frozen? ⟨wb,j,G0⟩=false:=λj=>by rw[F];exact(World.frozen?_setCell ..).trans (cf j)
 have d3:w4.cell? ⟨wb,3,G0⟩=G1 (.bool st.isSome):=by rw[F];exact(World.cell?_setCell_other _ _ _ _ (by simp)).trans ax
 go_upto_region 16 with fail;rw[<-F];rw[<-F] at hh L;have E4:=E0.stp L;have S4:=S0.stp L;have T4:=T0.trans L;clear F c2 cf ax E0 S0 T0 H0 L p0 p1 p2 p3 p4 c;rcases hh with ⟨hl,H5⟩|⟨hl,H5⟩
 ·have s5:as I12 w4 o0 (w4.setCell ⟨wb,3,G0⟩ (.bool false)) o0:=by
   obtain⟨t,aG,aF,ok,hr,_⟩:=H5.raw;obtain⟨v,hb,_⟩:=hr;exact fo _ w4 o0 ⟨wb,3,G0⟩ _ (.inl hb.2)
  have E5:=E4.stp s5;have S5:=S4.stp s5;have T5:=T4.trans s5;go_upto_region 18 with fail;generalize w4.setCell ⟨wb,3,G0⟩ (.bool false)=w5 at *;clear d2 df d3 s5 E4 S4 T4;have f:Hid (∀ wx u,Blk wx u 0 B (bxX e ao cap)->wx.cell? ⟨B,1,G0⟩=G1 (.int .i64 e.n)/\wx.cell? ⟨B,2,G0⟩=G1 (stv e.nm)):=λwx u h=>⟨(dS h.1).2.1,(dS h.1).2.2.1⟩;have ae:Blk w5.drew o0 0 B (bxX e ao cap):=E5;obtain⟨p0,p1,p2,p3,p4,c⟩:=dS E5.1;have ab:Hid (∀ wx u,WQ wx u wb l->Hn G5 231 #[.pointer (G1 ⟨wb,0,G0⟩),.string (⟨qw.toArray⟩++⟨#[32]⟩++⟨e.nm.toArray⟩++⟨#[32,105,110,32]⟩)] wx (i8 wx u wb (ew (qw++[32]++e.nm++[32,105,110,32]) (eF l)))):=λwx u h=>HO.out wx u l h;have V:Bal (eF l) (ew (qw++[32]++e.nm++[32,105,110,32]) (eF l)):=(Bal.refl _).put _;have hp:Hid (∀ s,Bal (eF l) s->∀ x,s=G1 x->1<=x.o):=λs h=>iT h;have Q:Hid (∀ s,Bal (eF l) s->Bal l (gY s)):=λs h=>Bal.lea h;generalize ew (qw++[32]++e.nm++[32,105,110,32]) (eF l)=m at *;clear HO;go_upto_region 18 with fail;go_cut [73] (λv wx=>∃z,WQ wx z wb m/\Blk wx z 0 B (bxX e ao cap)/\Sl wx (L0 z) e.kids ao/\as I12 w o wx z)
  case first =>
   refine wp_region_held_drew (S:=λwx=>wx.cell? ⟨B,1,G0⟩=G1 (.int .i64 e.n)/\wx.cell? ⟨B,2,G0⟩=G1 (stv e.nm)) (by kernel_rfl) (f.out _ _ ae) (λb=>?_);refine Iy (i:=0) (v:=?v6) rfl (by kernel_rfl) (by kernel_rfl) (by kernel_rfl) (λ_ _ _ h=>h) (Jp ⟨by rfl,?hy6⟩) (by assumption) ?rest6
   case hy6=>(intro w a;(try dsimp only at a);go_simp;all_goals (with_reducible rfl))
   simp only[IQ,Hz,Hr,Hs,Hq,Ic,Id];refine Iy (i:=2) (v:=?v7) rfl (by kernel_rfl) (by kernel_rfl) (by kernel_rfl) (λ_ _ _ h=>h) (Jp ⟨by rfl,?hy7⟩) (by assumption) ?rest7
   case hy7=>(intro w a;(try dsimp only at a);go_simp;all_goals (with_reducible rfl))
   simp only[IQ,Hz,Hr,Hs,Hq,Ic,Id];refine Iy (i:=3) (v:=?v8) rfl (by kernel_rfl) (by kernel_rfl) (by kernel_rfl) (λ_ _ _ h=>h) (Jp ⟨by rfl,?hy8⟩) (by assumption) ?rest8
   case hy8=>(intro w a;(try dsimp only at a);go_simp;all_goals (with_reducible rfl))
   simp only[IQ,Hz,Hr,Hs,Hq,Ic,Id];refine Iy (i:=4) (v:=?v9) rfl (by kernel_rfl) (by kernel_rfl) (by kernel_rfl) (λ_ _ _ h=>h) (Jp ⟨by rfl,?hy9⟩) (by assumption) ?rest9
   case hy9=>(intro w a;(try dsimp only at a);go_simp;all_goals (with_reducible rfl))
   simp only[IQ,Hz,Hr,Hs,Hq,Ic,Id];refine Iy (i:=8) (v:=?v10) rfl (by kernel_rfl) (by kernel_rfl) (by kernel_rfl) (λ_ _ _ h=>h) (Jp ⟨by rfl,?hy10⟩) (by assumption) ?rest10
   case hy10=>(intro w a;(try dsimp only at a);go_simp;all_goals (with_reducible rfl))
   simp only[IQ,Hz,Hr,Hs,Hq,Ic,Id];refine Iy (i:=9) (v:=?v11) rfl (by kernel_rfl) (by kernel_rfl) (by kernel_rfl) (λ_ _ _ h=>h) (Jp ⟨by rfl,?hy11⟩) (by assumption) ?rest11
   case hy11=>(intro w a;(try dsimp only at a);go_simp;all_goals (with_reducible rfl))
   simp only[IQ,Hz,Hr,Hs,Hq,Ic,Id];refine JJ (rs:=[1]) (by kernel_rfl) (by simp) ?_;refine Js rfl (λK A=>?_) JC
   go_simp
   go_wp2_with ((go_at_call 159;refine(pb _).mono ?_;rintro e2 w6 ⟨g1,rfl,WL⟩;have sA:as (λ_=>False) w5 o0 w6 o0:=(as.refl _ w5 o0).drew.trans (as.ofB o0 WL.1);have E6:Blk w6 o0 0 B (bxX e ao cap):=E5.step sA id;have H6:=H5.stp0 sA;have S6:=S5.stp0 sA;have T6:=T5.trans sA.i12;have ix:=WL.2.2.2 j _ HQ.out));refine A.out _ _ (f.out _ _ E6) (λb=>?_);clear A K;refine Iy (i:=5) (v:=?v12) rfl (by kernel_rfl) (by kernel_rfl) (by kernel_rfl) (λ_ _ _ h=>h) (Jp ⟨by rfl,?hy12⟩) (by assumption) ?rest12
   case hy12=>(intro w a;(try dsimp only at a);go_simp;all_goals (with_reducible rfl))
   simp only[IQ,Hz,Hr,Hs,Hq,Ic,Id];refine JJ (rs:=[6]) (by kernel_rfl) (by simp) ?_;refine Js rfl (λK A=>?_) JC
   go_simp
   refine A.out _ _ (f.out _ _ E6) (λb=>?_);clear A K;refine Iy (i:=7) (v:=?v13) rfl (by kernel_rfl) (by kernel_rfl) (by kernel_rfl) (λ_ _ _ h=>h) (Jp ⟨by rfl,?hy13⟩) (by assumption) ?rest13
   case hy13=>(intro w a;(try dsimp only at a);go_simp;rw[if_neg (by omega)])
   simp only[IQ,Hz,Hr,Hs,Hq,Ic,Id];refine Iy (i:=10) (v:=?v14) rfl (by kernel_rfl) (by kernel_rfl) (by kernel_rfl) (λ_ _ _ h=>h) (Jp ⟨by rfl,?hy14⟩) (by assumption) ?rest14
   case hy14=>(intro w a;(try dsimp only at a);go_simp;rw[if_neg (by omega)])
   simp only[IQ,Hz,Hr,Hs,Hq,Ic,Id];refine Iy (i:=11) (v:=?v15) rfl (by kernel_rfl) (by kernel_rfl) (by kernel_rfl) (λ_ _ _ h=>h) (Jp ⟨by rfl,?hy15⟩) (by assumption) ?rest15
   case hy15=>(intro w a;(try dsimp only at a);go_simp;rw[if_neg (by omega)])
   simp only[IQ,Hz,Hr,Hs,Hq,Ic,Id];refine JJ (rs:=[12]) (by kernel_rfl) (by simp) ?_;refine Js rfl (λK A=>?_) JC
   go_simp
   go_wp2_with ((go_at_call 231;refine(ab.out _ _ H6).mono ?_;rintro e2 w7 ⟨rfl,z,H7,s7⟩;have G:=E6.stp s7;have S7:=S6.stp s7;have T7:=T6.trans s7));refine A.out _ _ (f.out _ _ G) (λb=>?_);clear A K;refine wpAnyH_done (by kernel_rfl) ?_ _;go_wp2;go_meet;exact⟨z,H7,G,S7,T7⟩
  case rest =>
  obtain⟨z,H7,G,S7,T7⟩:=hcut;obtain⟨w7,rfl⟩:=exq wc;clear H5 S5 T5 E5 ae ab f p0 p1 p2 p3 p4 c;generalize eF l=se at *;obtain⟨p0,p1,p2,p3,p4,c⟩:=dS G.1;have c8:=jx IH e x .nil (Fs.ex y .nil) am.out 0 rfl (by omega) (az) (aw) ao cap wb m w7 z S7 H7;rw[dU] at c8;have U:=V.trans (iW e x 0 m);generalize ib e x 0 m=ah at *;go_wp2_with fail;refine c8.mono ?_;rintro e2 w8 ⟨rfl,o8,H8,s8⟩;have T8:=T7.trans s8;have S8:=S7.stp s8;have E8:=G.stp s8;clear c8 H7 T7 S7 G s8 p0 p1 p2 p3 p4 c V;obtain⟨p0,p1,p2,p3,p4,c⟩:=dS E8.1;have c9:=fG [58,32] H8 (by simp);have T:=U.put [58,32];generalize ew [58,32] ah=C at *;go_wp2_with fail;refine c9.mono ?_;rintro e2 w9 ⟨rfl,o9,H9,s9⟩;have T9:=T8.trans s9;have S9:=S8.stp s9;have E9:=E8.stp s9;clear c9 H8 T8 S8 E8 s9 p0 p1 p2 p3 p4 c U;obtain⟨p0,p1,p2,p3,p4,c⟩:=dS E9.1;have D:=jx IH e y (one x) .nil al.out 1 rfl (by omega) (ay) (av) ao cap wb C w9 o9 S9 H9;rw[dU] at D;have d:=T.trans (iW e y 1 C);generalize ib e y 1 C=J at *;go_wp2_with fail;refine D.mono ?_;rintro e2 ag ⟨rfl,aj,ad,r⟩;have Z:=T9.trans r;have aa:=S9.stp r;have E:=E9.stp r;clear D H9 T9 S9 E9 r p0 p1 p2 p3 p4 c T;obtain⟨p0,p1,p2,p3,p4,c⟩:=dS E.1;have P:=Q.out _ d;obtain⟨O,X,W,p,ac⟩:=ad.lea (hp.out _ d);generalize gY J=I at *;have Y:=Z.trans p;have ap:=aa.stp p;have af:=E.stp p;go_upto_region 23 with fail;generalize ag.setCell ⟨wb,1,G0⟩ (.int .i64 (Io (O-1)))=aD at *;clear X W ad Z aa E p p0 p1 p2 p3 p4 c hp d;generalize aj=ai at *;obtain⟨p0,p1,p2,p3,p4,c⟩:=dS af.1;obtain⟨au,aB,aA,M,aq⟩:=ac.qle (aC.out _ P);generalize tG I=ar at *;have an:=Y.trans M;clear ac Y ap af M p0 p1 p2 p3 p4 c P Q;go_wp2
  go_end0
  exact⟨rfl,ai,by rw[HF.out];exact aq,an⟩
 ·obtain⟨w5,rfl⟩:=exq w4;have E5:=E4;have S5:=S4;have T5:=T4;clear E4 S4 T4;have f:Hid (∀ wx u,Blk wx u 0 B (bxX e ao cap)->wx.cell? ⟨B,1,G0⟩=G1 (.int .i64 e.n)/\wx.cell? ⟨B,2,G0⟩=G1 (stv e.nm)):=λwx u h=>⟨(dS h.1).2.1,(dS h.1).2.2.1⟩;have ae:Blk w5.drew o0 0 B (bxX e ao cap):=E5;obtain⟨p0,p1,p2,p3,p4,c⟩:=dS E5.1;have ab:Hid (∀ wx u,WQ wx u wb l->Hn G5 231 #[.pointer (G1 ⟨wb,0,G0⟩),.string (⟨qw.toArray⟩++⟨#[32]⟩++⟨e.nm.toArray⟩++⟨#[32,105,110,32]⟩)] wx (i8 wx u wb (ew (qw++[32]++e.nm++[32,105,110,32]) (eF l)))):=λwx u h=>HO.out wx u l h;have V:Bal (eF l) (ew (qw++[32]++e.nm++[32,105,110,32]) (eF l)):=(Bal.refl _).put _;have hp:Hid (∀ s,Bal (eF l) s->∀ x,s=G1 x->1<=x.o):=λs h=>iT h;have Q:Hid (∀ s,Bal (eF l) s->Bal l (gY s)):=λs h=>Bal.lea h;generalize ew (qw++[32]++e.nm++[32,105,110,32]) (eF l)=m at *;clear HO;go_upto_region 18 with fail;clear d2 df d3;go_cut [73] (λv wx=>∃z,WQ wx z wb m/\Blk wx z 0 B (bxX e ao cap)/\Sl wx (L0 z) e.kids ao/\as I12 w o wx z)
  case first =>
   refine wp_region_held_drew (S:=λwx=>wx.cell? ⟨B,1,G0⟩=G1 (.int .i64 e.n)/\wx.cell? ⟨B,2,G0⟩=G1 (stv e.nm)) (by kernel_rfl) (f.out _ _ ae) (λb=>?_);refine Iy (i:=0) (v:=?v16) rfl (by kernel_rfl) (by kernel_rfl) (by kernel_rfl) (λ_ _ _ h=>h) (Jp ⟨by rfl,?hy16⟩) (by assumption) ?rest16
   case hy16=>(intro w a;(try dsimp only at a);go_simp;all_goals (with_reducible rfl))
   simp only[IQ,Hz,Hr,Hs,Hq,Ic,Id];refine Iy (i:=2) (v:=?v17) rfl (by kernel_rfl) (by kernel_rfl) (by kernel_rfl) (λ_ _ _ h=>h) (Jp ⟨by rfl,?hy17⟩) (by assumption) ?rest17
   case hy17=>(intro w a;(try dsimp only at a);go_simp;all_goals (with_reducible rfl))
   simp only[IQ,Hz,Hr,Hs,Hq,Ic,Id];refine Iy (i:=3) (v:=?v18) rfl (by kernel_rfl) (by kernel_rfl) (by kernel_rfl) (λ_ _ _ h=>h) (Jp ⟨by rfl,?hy18⟩) (by assumption) ?rest18
   case hy18=>(intro w a;(try dsimp only at a);go_simp;all_goals (with_reducible rfl))
   simp only[IQ,Hz,Hr,Hs,Hq,Ic,Id];refine Iy (i:=4) (v:=?v19) rfl (by kernel_rfl) (by kernel_rfl) (by kernel_rfl) (λ_ _ _ h=>h) (Jp ⟨by rfl,?hy19⟩) (by assumption) ?rest19
   case hy19=>(intro w a;(try dsimp only at a);go_simp;all_goals (with_reducible rfl))
   simp only[IQ,Hz,Hr,Hs,Hq,Ic,Id];refine Iy (i:=8) (v:=?v20) rfl (by kernel_rfl) (by kernel_rfl) (by kernel_rfl) (λ_ _ _ h=>h) (Jp ⟨by rfl,?hy20⟩) (by assumption) ?rest20
   case hy20=>(intro w a;(try dsimp only at a);go_simp;all_goals (with_reducible rfl))
   simp only[IQ,Hz,Hr,Hs,Hq,Ic,Id];refine Iy (i:=9) (v:=?v21) rfl (by kernel_rfl) (by kernel_rfl) (by kernel_rfl) (λ_ _ _ h=>h) (Jp ⟨by rfl,?hy21⟩) (by assumption) ?rest21
   case hy21=>(intro w a;(try dsimp only at a);go_simp;all_goals (with_reducible rfl))
   simp only[IQ,Hz,Hr,Hs,Hq,Ic,Id];refine JJ (rs:=[1]) (by kernel_rfl) (by simp) ?_;refine Js rfl (λK A=>?_) JC
   go_simp
   go_wp2_with ((go_at_call 159;refine(pb _).mono ?_;rintro e2 w6 ⟨g1,rfl,WL⟩;have sA:as (λ_=>False) w5 o0 w6 o0:=(as.refl _ w5 o0).drew.trans (as.ofB o0 WL.1);have E6:Blk w6 o0 0 B (bxX e ao cap):=E5.step sA id;have H6:=H5.stp0 sA;have S6:=S5.stp0 sA;have T6:=T5.trans sA.i12;have ix:=WL.2.2.2 j _ HQ.out));refine A.out _ _ (f.out _ _ E6) (λb=>?_);clear A K;refine Iy (i:=5) (v:=?v22) rfl (by kernel_rfl) (by kernel_rfl) (by kernel_rfl) (λ_ _ _ h=>h) (Jp ⟨by rfl,?hy22⟩) (by assumption) ?rest22
   case hy22=>(intro w a;(try dsimp only at a);go_simp;all_goals (with_reducible rfl))
   simp only[IQ,Hz,Hr,Hs,Hq,Ic,Id];refine JJ (rs:=[6]) (by kernel_rfl) (by simp) ?_;refine Js rfl (λK A=>?_) JC
   go_simp
   refine A.out _ _ (f.out _ _ E6) (λb=>?_);clear A K;refine Iy (i:=7) (v:=?v23) rfl (by kernel_rfl) (by kernel_rfl) (by kernel_rfl) (λ_ _ _ h=>h) (Jp ⟨by rfl,?hy23⟩) (by assumption) ?rest23
   case hy23=>(intro w a;(try dsimp only at a);go_simp;rw[if_neg (by omega)])
   simp only[IQ,Hz,Hr,Hs,Hq,Ic,Id];refine Iy (i:=10) (v:=?v24) rfl (by kernel_rfl) (by kernel_rfl) (by kernel_rfl) (λ_ _ _ h=>h) (Jp ⟨by rfl,?hy24⟩) (by assumption) ?rest24
   case hy24=>(intro w a;(try dsimp only at a);go_simp;rw[if_neg (by omega)])
   simp only[IQ,Hz,Hr,Hs,Hq,Ic,Id];refine Iy (i:=11) (v:=?v25) rfl (by kernel_rfl) (by kernel_rfl) (by kernel_rfl) (λ_ _ _ h=>h) (Jp ⟨by rfl,?hy25⟩) (by assumption) ?rest25
   case hy25=>(intro w a;(try dsimp only at a);go_simp;rw[if_neg (by omega)])
   simp only[IQ,Hz,Hr,Hs,Hq,Ic,Id];refine JJ (rs:=[12]) (by kernel_rfl) (by simp) ?_;refine Js rfl (λK A=>?_) JC
   go_simp
   go_wp2_with ((go_at_call 231;refine(ab.out _ _ H6).mono ?_;rintro e2 w7 ⟨rfl,z,H7,s7⟩;have G:=E6.stp s7;have S7:=S6.stp s7;have T7:=T6.trans s7));refine A.out _ _ (f.out _ _ G) (λb=>?_);clear A K;refine wpAnyH_done (by kernel_rfl) ?_ _;go_wp2;go_meet;exact⟨z,H7,G,S7,T7⟩
  case rest =>
  obtain⟨z,H7,G,S7,T7⟩:=hcut;obtain⟨w7,rfl⟩:=exq wc;clear H5 S5 T5 E5 ae ab f p0 p1 p2 p3 p4 c;generalize eF l=se at *;obtain⟨p0,p1,p2,p3,p4,c⟩:=dS G.1;have c8:=jx IH e x .nil (Fs.ex y .nil) am.out 0 rfl (by omega) (az) (aw) ao cap wb m w7 z S7 H7;rw[dU] at c8;have U:=V.trans (iW e x 0 m);generalize ib e x 0 m=ah at *;go_wp2_with fail;refine c8.mono ?_;rintro e2 w8 ⟨rfl,o8,H8,s8⟩;have T8:=T7.trans s8;have S8:=S7.stp s8;have E8:=G.stp s8;clear c8 H7 T7 S7 G s8 p0 p1 p2 p3 p4 c V;obtain⟨p0,p1,p2,p3,p4,c⟩:=dS E8.1;have c9:=fG [58,32] H8 (by simp);have T:=U.put [58,32];generalize ew [58,32] ah=C at *;go_wp2_with fail;refine c9.mono ?_;rintro e2 w9 ⟨rfl,o9,H9,s9⟩;have T9:=T8.trans s9;have S9:=S8.stp s9;have E9:=E8.stp s9;clear c9 H8 T8 S8 E8 s9 p0 p1 p2 p3 p4 c U;obtain⟨p0,p1,p2,p3,p4,c⟩:=dS E9.1;have D:=jx IH e y (one x) .nil al.out 1 rfl (by omega) (ay) (av) ao cap wb C w9 o9 S9 H9;rw[dU] at D;have d:=T.trans (iW e y 1 C);generalize ib e y 1 C=J at *;go_wp2_with fail;refine D.mono ?_;rintro e2 ag ⟨rfl,aj,ad,r⟩;have Z:=T9.trans r;have aa:=S9.stp r;have E:=E9.stp r;clear D H9 T9 S9 E9 r p0 p1 p2 p3 p4 c T;obtain⟨p0,p1,p2,p3,p4,c⟩:=dS E.1;have P:=Q.out _ d;obtain⟨O,X,W,p,ac⟩:=ad.lea (hp.out _ d);generalize gY J=I at *;have Y:=Z.trans p;have ap:=aa.stp p;have af:=E.stp p;go_upto_region 23 with fail;generalize ag.setCell ⟨wb,1,G0⟩ (.int .i64 (Io (O-1)))=aD at *;clear X W ad Z aa E p p0 p1 p2 p3 p4 c hp d;generalize aj=ai at *;obtain⟨p0,p1,p2,p3,p4,c⟩:=dS af.1;obtain⟨au,aB,aA,M,aq⟩:=ac.qle (aC.out _ P);generalize tG I=ar at *;have an:=Y.trans M;clear ac Y ap af M p0 p1 p2 p3 p4 c P Q;go_wp2
  go_end0
  exact⟨rfl,ai,by rw[HF.out];exact aq,an⟩
theorem Gi (k:Int):(gZ k).isSome=decide (8<=k/\k<=18):=by
 by_cases h:8<=k/\k<=18
 ·rw[show decide (8<=k/\k<=18)=true by simpa using h]
  have:k=8\/k=9\/k=10\/k=11\/k=12\/k=13\/k=14\/k=15\/k=16\/k=17\/k=18:=by omega
  rcases this with rfl|rfl|rfl|rfl|rfl|rfl|rfl|rfl|rfl|rfl|rfl<;>rfl
 ·rw[show decide (8<=k/\k<=18)=false by simpa using h,Ka,Kg];unfold gZ;rw[List.find?_eq_none];intro x a
  have:∀ x ∈ iO,8<=x.2.1/\x.2.1<=18:=by decide
  have:=this x a
  simp only[beq_iff_eq];omega
theorem xx {n:Int}(h:1<=n/\n<=10):∃x,jw n=G1 x/\(x.2.2:Int)=if 1<=n/\n<=3 then 2 else 1:=by
 have:n=1\/n=2\/n=3\/n=4\/n=5\/n=6\/n=7\/n=8\/n=9\/n=10:=by omega
 rcases this with rfl|rfl|rfl|rfl|rfl|rfl|rfl|rfl|rfl|rfl<;>exact⟨_,rfl,rfl⟩
theorem FT {k n:Int}(h:fl k n=true)(m:Nat):eB k n m=(!decide (fR k n < -1)&&(decide (fR k n<0)||decide ((m:Int)=fR k n))):=by
 have e0:∀ c:Int,decide ((m:Int)=c)=((m:Int)==c):=λc=>rfl;by_cases h1:k=1
 ·subst h1
  first|(simp[eB,fR,e0];done)|(simp[eB,fR,e0];rw[Hm];simp)
 by_cases h2:k=2
 ·subst h2
  first|(simp[eB,fR,e0];done)|(simp[eB,fR,e0];rw[Hm];simp)
 by_cases b:k=3
 ·subst b
  first|(simp[eB,fR,e0];done)|(simp[eB,fR,e0];rw[Hm];simp)
 by_cases t:k=4
 ·subst t
  first|(simp[eB,fR,e0];done)|(simp[eB,fR,e0];rw[Hm];simp)
 by_cases g:k=22
 ·subst g
  first|(simp[eB,fR,e0];done)|(simp[eB,fR,e0];rw[Hm];simp)
 by_cases f:k=23
 ·subst f
  first|(simp[eB,fR,e0];done)|(simp[eB,fR,e0];rw[Hm];simp)
 by_cases s:k=6
 ·subst s
  first|(simp[eB,fR,e0];done)|(simp[eB,fR,e0];rw[Hm];simp)
 by_cases r:k=7
 ·subst r
  first|(simp[eB,fR,e0];done)|(simp[eB,fR,e0];rw[Hm];simp)
 by_cases e:k=24
 ·subst e
  first|(simp[eB,fR,e0];done)|(simp[eB,fR,e0];rw[Hm];simp)
 by_cases i:k=21
 ·subst i
  first|(simp[eB,fR,e0];done)|(simp[eB,fR,e0];rw[Hm];simp)
 by_cases l:k=19
 ·subst l
  first|(simp[eB,fR,e0];done)|(simp[eB,fR,e0];rw[Hm];simp)
 by_cases d:k=25
 ·subst d
  first|(simp[eB,fR,e0];done)|(simp[eB,fR,e0];rw[Hm];simp)
 by_cases j:k=20
 ·subst j;have u:1<=n/\n<=10:=by simpa [fl,eU] using h
  obtain⟨x,q,o⟩:=xx u;by_cases b:1<=n/\n<=3
  ·rw[if_pos b] at o;simp[eB,fR,q,o,b,e0]
  ·rw[if_neg b] at o;simp[eB,fR,q,o,b,e0]
 have p:eB k n m=((gZ k).isSome&&(m:Int)==2):=by simp[eB,h1,h2,b,t,g,f,s,r,e,i,l,d,j]
 rw[p,Gi];by_cases v:8<=k/\k<=18
 ·have a:fR k n=2:=by
   unfold fR;rw[if_neg (by omega),if_neg (by omega),if_pos (by omega)]
  rw[a];simp[v,e0]
 ·have a:fR k n=-2:=by
   unfold fR;rw[if_neg (by omega),if_neg (by omega),if_neg (by omega),if_neg (by omega),if_neg (by omega),if_neg (by omega)]
  rw[a];simp;omega
theorem Fp {k:Int}{z:List UInt8 × Nat × Nat × Nat × Nat}(h:gZ k=G1 z):md k 0=z.2.2.2.1/\md k 1=z.2.2.2.2/\z.1.length<=3/\(k==21)=false:=by
 have a:=Ii h;have b:((z.2.1:Nat):Int)=k:=by have:=Jm h;simpa using this
 subst b;simp only[iO,IR,IP,or_false] at a;rcases a with rfl|rfl|rfl|rfl|rfl|rfl|rfl|rfl|rfl|rfl|rfl<;>exact⟨rfl,rfl,by decide,rfl⟩
theorem mj {N:Nat}(h:kh N)(e:Ex)(b:e.kids.size<=N)(f:e.fit)(ao:Option Hw)(cap wb:Nat)(st:Ow)(w:G9)(o:Nat->Nat)(S:Sl w (L0 o) e.kids ao)(H:WQ w o wb st)(a:e.k=19\/e.k=20\/e.k=21\/e.k=24\/e.k=25)(d:(fl e.k e.n&&fy e.k e.nm&&eB e.k e.n e.kids.len)=true) :
  Hn G5 233 #[.pointer (G1 ⟨wb,0,G0⟩),exV e ao cap] w (i8 w o wb (eP e.k e.n e.nm (λg s=>oFs e.kids (e.k==21) g 0 s) st)):=by
 simp only[Ia] at d;rcases a with a|a|a|a|a
 ·exact Av h e b f ao cap wb st w o S H a (by have c:=d.2;rw[a] at c;simp[eB] at c;omega)
 ·exact tU h e b f ao cap wb st w o S H a (by have c:=d.1.1;rw[a] at c;simpa [fl,eU] using c)
 ·exact tM h e b f ao cap wb st w o S H a (by have c:=d.1.1;rw[a] at c;simpa [fl,eM] using c) (by have c:=d.2;rw[a] at c;simp[eB] at c;omega) (mE d.1.2)
 ·exact rJ h e b f ao cap wb st w o S H a
 ·exact vA h e b f ao cap wb st w o S H a
theorem u9 {N:Nat}(IH:kh N):kh (N+1):=by
 intro e ao cap set wb st w o aU Q S H;have ag:e.kids.size<=N:=by omega
 obtain⟨V,hV⟩:=exq ((fl e.k e.n&&fy e.k e.nm&&eB e.k e.n e.kids.len&&(eQ e.k==set)));have HX:Hid (oEx e set st=if V=true then eP e.k e.n e.nm (λg s=>oFs e.kids (e.k==21) g 0 s) st else G0):=by show _=_;rw[hV];rfl
 have HV:Hid (V=(fl e.k e.n&&fy e.k e.nm&&eB e.k e.n e.kids.len&&(eQ e.k==set))):=hV;clear aU hV;have s0:=ez (λ_=>False) w o (bxX e ao cap);have E0:Blk (w.alloc (bxX e ao cap)) (dQ w o 0) 0 w.heap.size (bxX e ao cap):=jK w o _ _;have S0:=S.stp0 s0;have H0:=H.stp0 s0;have T0:=s0.i12;clear S H s0;rw[dU];go_enter Tryz.func193,Tryz.ntmps193;go_upto_region 1 with fail;generalize w.alloc (bxX e ao cap)=w0 at *;generalize dQ w o 0=o0 at *;generalize w.heap.size=be at *;obtain⟨p0,p1,p2,p3,p4,d⟩:=dS E0.1;have c1:=Ft e.k e.n e.nm ao e.kids.len cap e.a w0;generalize aM:fR e.k e.n=kN at *;have aw:=Hg aM;clear aM;go_wp2_with fail;refine c1.mono ?_;rintro G w1 ⟨rfl,b1⟩;have s1:as (λ_=>False) w0 o0 w1 o0:=as.ofB o0 b1;have E1:=E0.step s1 id;have S1:=S0.stp0 s1;have H1:=H0.stp0 s1;have T1:=T0.trans s1.i12;clear c1 b1 s1 E0 S0 H0 T0 p0 p1 p2 p3 p4 d;obtain⟨p0,p1,p2,p3,p4,d⟩:=dS E1.1;have c2:=y9 e.k e.n e.nm ao e.kids.len cap e.a w1 Q.nm;generalize hF:(fl e.k e.n&&fy e.k e.nm)=Fd at *;have ak:=Hg hF;clear hF;go_wp2_with fail;refine c2.mono ?_;rintro G w2 ⟨rfl,b2⟩;have s2:as (λ_=>False) w1 o0 w2 o0:=as.ofB o0 b2;have r:=E1.step s2 id;have m:=S1.stp0 s2;have u:=H1.stp0 s2;have t:=T1.trans s2.i12;clear c2 b2 s2 E1 S1 H1 T1 p0 p1 p2 p3 p4 d;obtain⟨p0,p1,p2,p3,p4,d⟩:=dS r.1;obtain⟨c3,cf,sE,HE⟩:=u.end;go_upto_region 3 with fail;go_cut [42] (λv wx=>v=.bool (!(st.isSome&&V))/\wx=w2)
 case first =>
  clear HX m t HE sE;cases I:st.isSome with
  | false =>
   rw[I] at c3;go_wp2;go_meet;exact⟨by simp[I],rfl⟩
  | true =>
   rw[I] at c3;cases Fd with
   | false =>
    have L:V=false:=by rw[HV.out];rfl
    subst L;go_wp2;go_meet;exact⟨by simp[I],rfl⟩
   | true =>
    have aL:fl e.k e.n=true:=by have:=ak.out;simp only[Ia] at this;exact this.1
    have Z:Hid (V=(!decide (kN < -1)&&(decide (kN<0)||decide ((e.kids.len:Int)=kN))&&(eQ e.k==set))):=by show V=_;rw[HV.out,JM,FT aL,aw.out]
    clear HV aL ak aw;by_cases h1:kN < -1
    ·have L:V=false:=by rw[Z.out];simp[h1]
     subst L;go_wp2;go_meet;exact⟨by simp[I],rfl⟩
    ·have cS:=DE e.k w2;by_cases h2:0<=kN
     ·by_cases U:(e.kids.len:Int)=kN
      ·have aW:((e.kids.len:Int)==kN)=true:=by simpa using U
       have aV:((e.kids.len:Int) != kN)=false:=by simpa using U
       have L:V=(eQ e.k==set):=by rw[Z.out];simp[h1,U]
       have aF:=Hg L;clear L U Z;cases hs:eQ e.k<;>cases set
       all_goals
        rw[hs] at cS;have L:=aF.out;rw[hs] at L;subst L;go_wp2_with fail;refine cS.mono ?_;rintro G w3 ⟨rfl,rfl⟩;go_wp2;go_meet;exact⟨by simp[I],rfl⟩
      ·have aW:((e.kids.len:Int)==kN)=false:=by simpa using U
       have aV:((e.kids.len:Int) != kN)=true:=by simpa using U
       have L:V=false:=by rw[Z.out];simp[U];omega
       subst L;clear U;go_wp2;go_meet;exact⟨by simp[I],rfl⟩
     ·have L:V=(eQ e.k==set):=by rw[Z.out];simp[h1];omega
      have aF:=Hg L;clear L Z;cases hs:eQ e.k<;>cases set
      all_goals
       rw[hs] at cS;have L:=aF.out;rw[hs] at L;subst L;go_wp2_with fail;refine cS.mono ?_;rintro G w3 ⟨rfl,rfl⟩;go_wp2;go_meet;exact⟨by simp[I],rfl⟩
 case rest =>
 obtain⟨rfl,aI⟩:=hcut;rw[aI];clear aI;by_cases hB:(st.isSome&&V)=true
 case neg =>
  have ah:(st.isSome&&V)=false:=by simpa using hB
  have aZ:Hid (oEx e set st=G0):=by
   show _=_;rw[HX.out];cases I:st with
   | none =>
    cases V with
    | true=>rw[if_pos rfl];exact qJ (λg=>mA _ _ _ _)
    | false=>rw[if_neg (by simp)]
   | some s1 =>
    rw[I] at ah;rw[if_neg (by intro hv;rw[hv] at ah;cases ah)]
  have l:=t.trans sE;rw[ah];clear HX HV ak aw hB ah r m u t sE;go_wp2
  (try simp only[JU,KJ])
  refine Hb (Jq rfl _ _ _) rfl ?_;exact⟨rfl,o0,by rw[aZ.out];exact HE,l⟩
 case pos =>
 rw[hB];have az:V=true:=by simp only[Ia] at hB;exact hB.2
 have c:Hid (oEx e set st=eP e.k e.n e.nm (λg s=>oFs e.kids (e.k==21) g 0 s) st):=by show _=_;rw[HX.out,if_pos az]
 have f:Hid ((fl e.k e.n&&fy e.k e.nm&&eB e.k e.n e.kids.len)=true):=by
  show _=true;have j:=HV.out;rw[az,<-ak.out] at j;have j:=j.symm;rw[Ia] at j;exact j.1
 clear HX HV ak aw hB az HE sE c3 cf;by_cases h1:e.k=1
 ·have A:Hid (oEx e set st=ew (I6 e.n) st):=by
   show _=_;rw[c.out];unfold eP;rw[if_neg (by omega),if_neg (by omega),if_neg (by omega),if_neg (by omega),if_neg (by omega),if_neg (by omega),if_neg (by omega)];unfold iM;rw[if_pos h1]
  have b1:(e.k==1)=true:=by simp[h1]
  have aB:0<=e.n:=by have j:=f.out;rw[h1] at j;simp[fl] at j;exact j.1.1
  clear h1 c f;have cd:=sG e.n aB Q.n2 w2;have aQ:=KI e.n Q.n1 Q.n2;go_wp2_with fail;refine cd.mono ?_;rintro G w3 ⟨rfl,b3⟩;clear cd;have b:as (λ_=>False) w2 o0 w3 o0:=as.ofB o0 b3;have i:=r.step b id;have E:=m.stp0 b;have p:=u.stp0 b;have l:=t.trans b.i12;clear r m u t b p0 p1 p2 p3 p4 d;obtain⟨p0,p1,p2,p3,p4,d⟩:=dS i.1;clear b3;obtain⟨D,ab⟩:=exq o0;rw[<-ab] at i E p l;clear ab;have c4:=fG (I6 e.n) p (by omega);generalize ew (I6 e.n) st=T at *;go_wp2_with fail;refine c4.mono ?_;rintro G w4 ⟨rfl,X,P,B⟩;have O:=l.trans B;have S4:=E.stp B;have R:=i.stp B;clear c4 p l E i B p0 p1 p2 p3 p4 d;obtain⟨p0,p1,p2,p3,p4,d⟩:=dS R.1;go_wp2
  go_end0
  exact⟨rfl,X,by rw[A.out];exact P,O⟩
 by_cases h2:e.k=2
 ·have A:Hid (oEx e set st=ew (KB (e.n==1)) st):=by
   show _=_;rw[c.out];unfold eP;rw[if_neg (by omega),if_neg (by omega),if_neg (by omega),if_neg (by omega),if_neg (by omega),if_neg (by omega),if_neg (by omega)];unfold iM;rw[if_neg (by omega),if_pos h2]
  have b1:(e.k==1)=false:=bne (by omega);have b2:(e.k==2)=true:=by simp[h2]
  have hn2:e.n=0\/e.n=1:=by have j:=f.out;rw[h2] at j;simp[fl] at j;exact j.1.1
  clear h2 c f;rcases hn2 with hn2|hn2
  ·rw[hn2] at p1;have A:Hid (oEx e set st=ew [102,97,108,115,101] st):=by show _=_;rw[A.out,hn2];rfl
   clear hn2;have b:=gV (λ_=>False) w2 o0 (.cells #[.string ⟨#[102,97,108,115,101]⟩,.string ⟨#[116,114,117,101]⟩] 9);have i:=r.step b id;have E:=m.stp0 b;have p:=u.stp0 b;have l:=t.trans b.i12;have aS:be<w2.heap.size:=r.lt;have c4:=fG [102,97,108,115,101] p (by simp);generalize ew [102,97,108,115,101] st=T at *;go_wp2_with fail;refine c4.mono ?_;rintro G w4 ⟨rfl,X,P,B⟩;have O:=l.trans B;clear c4 u t m r p l E i b B p0 p1 p2 p3 p4 d;go_wp2
   go_end0
   exact⟨rfl,X,by rw[A.out];exact P,O⟩
  ·rw[hn2] at p1;have A:Hid (oEx e set st=ew [116,114,117,101] st):=by show _=_;rw[A.out,hn2];rfl
   clear hn2;have b:=gV (λ_=>False) w2 o0 (.cells #[.string ⟨#[102,97,108,115,101]⟩,.string ⟨#[116,114,117,101]⟩] 9);have i:=r.step b id;have E:=m.stp0 b;have p:=u.stp0 b;have l:=t.trans b.i12;have aS:be<w2.heap.size:=r.lt;have c4:=fG [116,114,117,101] p (by simp);generalize ew [116,114,117,101] st=T at *;go_wp2_with fail;refine c4.mono ?_;rintro G w4 ⟨rfl,X,P,B⟩;have O:=l.trans B;clear c4 u t m r p l E i b B p0 p1 p2 p3 p4 d;go_wp2
   go_end0
   exact⟨rfl,X,by rw[A.out];exact P,O⟩
 by_cases U:e.k=3
 ·have A:Hid (oEx e set st=ew ([64]++I6 e.n) st):=by
   show _=_;rw[c.out];unfold eP;rw[if_neg (by omega),if_neg (by omega),if_neg (by omega),if_neg (by omega),if_neg (by omega),if_neg (by omega),if_neg (by omega)];unfold iM;rw[if_neg (by omega),if_neg (by omega),if_pos U]
  have b1:(e.k==1)=false:=bne (by omega);have b2:(e.k==2)=false:=bne (by omega);have b3:(e.k==3)=true:=by simp[U]
  have aB:0<=e.n:=by have j:=f.out;rw[U] at j;simp[fl] at j;exact j.1.1
  clear U c f;have cd:=sG e.n aB Q.n2 w2;have aQ:=KI e.n Q.n1 Q.n2;have a2:=jV (I6 e.n);generalize I6 e.n=dg at *;go_wp2_with fail;refine cd.mono ?_;rintro G w3 ⟨rfl,b3⟩;clear cd;have b:as (λ_=>False) w2 o0 w3 o0:=as.ofB o0 b3;have i:=r.step b id;have E:=m.stp0 b;have p:=u.stp0 b;have l:=t.trans b.i12;clear r m u t b p0 p1 p2 p3 p4 d;obtain⟨p0,p1,p2,p3,p4,d⟩:=dS i.1;clear b3;obtain⟨D,ab⟩:=exq o0;rw[<-ab] at i E p l;clear ab;have c4:=fG ([64]++dg) p (by simp;omega);have ec:(⟨([64]++dg).toArray⟩:ByteArray)=⟨#[64]⟩++⟨dg.toArray⟩:=(xX [64] dg).symm;rw[show stv ([64]++dg)=.string (⟨#[64]⟩++⟨dg.toArray⟩) by rw[<-ec]] at c4;generalize ew ([64]++dg) st=T at *;clear ec;go_wp2_with fail;refine c4.mono ?_;rintro G w4 ⟨rfl,X,P,B⟩;have O:=l.trans B;have S4:=E.stp B;have R:=i.stp B;clear c4 p l E i B p0 p1 p2 p3 p4 d;obtain⟨p0,p1,p2,p3,p4,d⟩:=dS R.1;go_wp2
  go_end0
  exact⟨rfl,X,by rw[A.out];exact P,O⟩
 by_cases h4:e.k=4
 ·have A:Hid (oEx e set st=ew e.nm st):=by
   show _=_;rw[c.out];unfold eP;rw[if_neg (by omega),if_neg (by omega),if_neg (by omega),if_neg (by omega),if_neg (by omega),if_neg (by omega),if_neg (by omega)];unfold iM;rw[if_neg (by omega),if_neg (by omega),if_neg (by omega),if_pos (by omega)]
  have b1:(e.k==1)=false:=bne (by omega);have b2:(e.k==2)=false:=bne (by omega);have b3:(e.k==3)=false:=bne (by omega);have Y:(e.k==4)=true:=by simp[h4]
  have aP:e.nm.length<=12:=by have j:=f.out;simp only[Ia] at j;exact mE j.1.2
  clear h4 c f;have c3:=fG e.nm u (by omega);generalize ew e.nm st=q at *;go_wp2_with fail;refine c3.mono ?_;rintro G w3 ⟨rfl,D,p,b⟩;have l:=t.trans b;have E:=m.stp b;have i:=r.stp b;clear c3 u t m r b p0 p1 p2 p3 p4 d;obtain⟨p0,p1,p2,p3,p4,d⟩:=dS i.1;go_wp2
  go_end0
  exact⟨rfl,D,by rw[A.out];exact p,l⟩
 by_cases ap:e.k=23
 ·have A:Hid (oEx e set st=ew e.nm st):=by
   show _=_;rw[c.out];unfold eP;rw[if_neg (by omega),if_neg (by omega),if_neg (by omega),if_neg (by omega),if_neg (by omega),if_neg (by omega),if_neg (by omega)];unfold iM;rw[if_neg (by omega),if_neg (by omega),if_neg (by omega),if_pos (by omega)]
  have b1:(e.k==1)=false:=bne (by omega);have b2:(e.k==2)=false:=bne (by omega);have b3:(e.k==3)=false:=bne (by omega);have Y:(e.k==4)=false:=bne (by omega);have J:(e.k==23)=true:=by simp[ap]
  have aP:e.nm.length<=12:=by have j:=f.out;simp only[Ia] at j;exact mE j.1.2
  clear ap c f;have c3:=fG e.nm u (by omega);generalize ew e.nm st=q at *;go_wp2_with fail;refine c3.mono ?_;rintro G w3 ⟨rfl,D,p,b⟩;have l:=t.trans b;have E:=m.stp b;have i:=r.stp b;clear c3 u t m r b p0 p1 p2 p3 p4 d;obtain⟨p0,p1,p2,p3,p4,d⟩:=dS i.1;go_wp2
  go_end0
  exact⟨rfl,D,by rw[A.out];exact p,l⟩
 by_cases ai:e.k=22
 ·have A:Hid (oEx e set st=ew [118,101,114,116,105,99,101,115] st):=by
   show _=_;rw[c.out];unfold eP;rw[if_neg (by omega),if_neg (by omega),if_neg (by omega),if_neg (by omega),if_neg (by omega),if_neg (by omega),if_neg (by omega)];unfold iM;rw[if_neg (by omega),if_neg (by omega),if_neg (by omega),if_neg (by omega),if_pos ai]
  have b1:(e.k==1)=false:=bne (by omega);have b2:(e.k==2)=false:=bne (by omega);have b3:(e.k==3)=false:=bne (by omega);have Y:(e.k==4)=false:=bne (by omega);have J:(e.k==23)=false:=bne (by omega);have M:(e.k==22)=true:=by simp[ai]
  clear ai c f;have c3:=fG [118,101,114,116,105,99,101,115] u (by simp);generalize ew [118,101,114,116,105,99,101,115] st=q at *;go_wp2_with fail;refine c3.mono ?_;rintro G w3 ⟨rfl,D,p,b⟩;have l:=t.trans b;have E:=m.stp b;have i:=r.stp b;clear c3 u t m r b p0 p1 p2 p3 p4 d;obtain⟨p0,p1,p2,p3,p4,d⟩:=dS i.1;go_wp2
  go_end0
  exact⟨rfl,D,by rw[A.out];exact p,l⟩
 by_cases h6:e.k=6
 ·have hl:e.kids.len=1:=by have j:=f.out;simp only[Ia] at j;have j:=j.2;rw[h6] at j;simp[eB] at j;omega
  obtain⟨x,C⟩:=uy hl;have K:Hid (e.kids=Fs.app .nil (Fs.ex x .nil)):=C;have aa:e.kids.size=x.kids.size+0+1:=by rw[C];rfl
  have af:x.kids.size<N:=by omega
  have ac:=Ex.kidfit Q K.out;clear aa;have A:Hid (oEx e set st=gY (ib e x 0 (ew [45] (eF st)))):=by
   show _=_;rw[c.out];unfold eP;rw[if_neg (by omega),if_pos h6];simp only[C,oB];rw[iD e x 0 _ (by rw[h6];rfl) (by rw[h6];rfl)];rfl
  have b1:(e.k==1)=false:=bne (by omega);have b2:(e.k==2)=false:=bne (by omega);have b3:(e.k==3)=false:=bne (by omega);have Y:(e.k==4)=false:=bne (by omega);have J:(e.k==23)=false:=bne (by omega);have M:(e.k==22)=false:=bne (by omega);have b6:(e.k==6)=true:=by simp[h6]
  clear h6 C hl c f;have c3:=jo [45] u (by simp);have ae:Bal (eF st) (ew [45] (eF st)):=(Bal.refl _).put [45];have hp:Hid (∀ s,Bal (eF st) s->∀ x,s=G1 x->1<=x.o):=λs h=>iT h;generalize ew [45] (eF st)=q at *;generalize eF st=se at *;go_wp2_with fail;refine c3.mono ?_;rintro G w3 ⟨rfl,D,p,b⟩;have l:=t.trans b;have E:=m.stp b;have i:=r.stp b;clear c3 u t m r b p0 p1 p2 p3 p4 d;obtain⟨p0,p1,p2,p3,p4,d⟩:=dS i.1;have c4:=jx IH e x .nil .nil K.out 0 rfl (by omega) (af) (ac) ao cap wb q w3 D E p;rw[dU] at c4;have ad:=ae.trans (iW e x 0 q);generalize ib e x 0 q=T at *;go_wp2_with fail;refine c4.mono ?_;rintro G w4 ⟨rfl,X,P,B⟩;have O:=l.trans B;have S4:=E.stp B;have R:=i.stp B;clear c4 p l E i B p0 p1 p2 p3 p4 d ae;obtain⟨p0,p1,p2,p3,p4,d⟩:=dS R.1;obtain⟨ax,aD,aC,W,H5⟩:=P.lea (hp.out _ ad);generalize gY T=al at *;have T5:=O.trans W;have S5:=S4.stp W;have E5:=R.stp W;go_wp2;generalize w4.setCell ⟨wb,1,G0⟩ (.int .i64 (Io (ax-1)))=w5 at *;clear aD aC P O S4 R W p0 p1 p2 p3 p4 d hp ad;generalize X=o5 at *;obtain⟨p0,p1,p2,p3,p4,d⟩:=dS E5.1
  go_end0
  exact⟨rfl,o5,by rw[A.out];exact H5,T5⟩
 by_cases h7:e.k=7
 ·have hl:e.kids.len=1:=by have j:=f.out;simp only[Ia] at j;have j:=j.2;rw[h7] at j;simp[eB] at j;omega
  obtain⟨x,C⟩:=uy hl;have K:Hid (e.kids=Fs.app .nil (Fs.ex x .nil)):=C;have aa:e.kids.size=x.kids.size+0+1:=by rw[C];rfl
  have af:x.kids.size<N:=by omega
  have ac:=Ex.kidfit Q K.out;clear aa;have A:Hid (oEx e set st=gY (ib e x 0 (ew [110,111,116,32] (eF st)))):=by
   show _=_;rw[c.out];unfold eP;rw[if_pos h7];simp only[C,oB];rw[iD e x 0 _ (by rw[h7];rfl) (by rw[h7];rfl)];rfl
  have b1:(e.k==1)=false:=bne (by omega);have b2:(e.k==2)=false:=bne (by omega);have b3:(e.k==3)=false:=bne (by omega);have Y:(e.k==4)=false:=bne (by omega);have J:(e.k==23)=false:=bne (by omega);have M:(e.k==22)=false:=bne (by omega);have b6:(e.k==6)=false:=bne (by omega);have b7:(e.k==7)=true:=by simp[h7]
  clear h7 C hl c f;have c3:=jo [110,111,116,32] u (by simp);have ae:Bal (eF st) (ew [110,111,116,32] (eF st)):=(Bal.refl _).put [110,111,116,32];have hp:Hid (∀ s,Bal (eF st) s->∀ x,s=G1 x->1<=x.o):=λs h=>iT h;generalize ew [110,111,116,32] (eF st)=q at *;generalize eF st=se at *;go_wp2_with fail;refine c3.mono ?_;rintro G w3 ⟨rfl,D,p,b⟩;have l:=t.trans b;have E:=m.stp b;have i:=r.stp b;clear c3 u t m r b p0 p1 p2 p3 p4 d;obtain⟨p0,p1,p2,p3,p4,d⟩:=dS i.1;have c4:=jx IH e x .nil .nil K.out 0 rfl (by omega) (af) (ac) ao cap wb q w3 D E p;rw[dU] at c4;have ad:=ae.trans (iW e x 0 q);generalize ib e x 0 q=T at *;go_wp2_with fail;refine c4.mono ?_;rintro G w4 ⟨rfl,X,P,B⟩;have O:=l.trans B;have S4:=E.stp B;have R:=i.stp B;clear c4 p l E i B p0 p1 p2 p3 p4 d ae;obtain⟨p0,p1,p2,p3,p4,d⟩:=dS R.1;obtain⟨ax,aD,aC,W,H5⟩:=P.lea (hp.out _ ad);generalize gY T=al at *;have T5:=O.trans W;have S5:=S4.stp W;have E5:=R.stp W;go_wp2;generalize w4.setCell ⟨wb,1,G0⟩ (.int .i64 (Io (ax-1)))=w5 at *;clear aD aC P O S4 R W p0 p1 p2 p3 p4 d hp ad;generalize X=o5 at *;obtain⟨p0,p1,p2,p3,p4,d⟩:=dS E5.1
  go_end0
  exact⟨rfl,o5,by rw[A.out];exact H5,T5⟩
 by_cases au:e.k=19
 ·have A:Hid (oEx e set st=eP e.k e.n e.nm (λg s=>oFs e.kids (e.k==21) g 0 s) st):=c.out;have F:e.k=19\/e.k=20\/e.k=21\/e.k=24\/e.k=25:=by omega
  have b1:(e.k==1)=false:=bne (by omega);have b2:(e.k==2)=false:=bne (by omega);have b3:(e.k==3)=false:=bne (by omega);have Y:(e.k==4)=false:=bne (by omega);have J:(e.k==23)=false:=bne (by omega);have M:(e.k==22)=false:=bne (by omega);have b6:(e.k==6)=false:=bne (by omega);have b7:(e.k==7)=false:=bne (by omega);have aj:(e.k==19)=true:=by simp[au]
  clear au c;have c3:=mj IH e ag Q ao cap wb st w2 o0 m u F f.out;rw[dU] at c3;generalize eP e.k e.n e.nm (λg s=>oFs e.kids (e.k==21) g 0 s) st=q at *;clear F;go_wp2_with fail;refine c3.mono ?_;rintro G w3 ⟨rfl,D,p,b⟩;have l:=t.trans b;have E:=m.stp b;have i:=r.stp b;clear c3 u t m r b p0 p1 p2 p3 p4 d;obtain⟨p0,p1,p2,p3,p4,d⟩:=dS i.1;go_wp2
  go_end0
  exact⟨rfl,D,by rw[A.out];exact p,l⟩
 by_cases aq:e.k=21
 ·have A:Hid (oEx e set st=eP e.k e.n e.nm (λg s=>oFs e.kids (e.k==21) g 0 s) st):=c.out;have F:e.k=19\/e.k=20\/e.k=21\/e.k=24\/e.k=25:=by omega
  have b1:(e.k==1)=false:=bne (by omega);have b2:(e.k==2)=false:=bne (by omega);have b3:(e.k==3)=false:=bne (by omega);have Y:(e.k==4)=false:=bne (by omega);have J:(e.k==23)=false:=bne (by omega);have M:(e.k==22)=false:=bne (by omega);have b6:(e.k==6)=false:=bne (by omega);have b7:(e.k==7)=false:=bne (by omega);have aj:(e.k==19)=false:=bne (by omega);have av:(e.k==21)=true:=by simp[aq]
  clear aq c;have c3:=mj IH e ag Q ao cap wb st w2 o0 m u F f.out;rw[dU] at c3;generalize eP e.k e.n e.nm (λg s=>oFs e.kids (e.k==21) g 0 s) st=q at *;clear F;go_wp2_with fail;refine c3.mono ?_;rintro G w3 ⟨rfl,D,p,b⟩;have l:=t.trans b;have E:=m.stp b;have i:=r.stp b;clear c3 u t m r b p0 p1 p2 p3 p4 d;obtain⟨p0,p1,p2,p3,p4,d⟩:=dS i.1;go_wp2
  go_end0
  exact⟨rfl,D,by rw[A.out];exact p,l⟩
 by_cases ar:e.k=20
 ·have A:Hid (oEx e set st=eP e.k e.n e.nm (λg s=>oFs e.kids (e.k==21) g 0 s) st):=c.out;have F:e.k=19\/e.k=20\/e.k=21\/e.k=24\/e.k=25:=by omega
  have b1:(e.k==1)=false:=bne (by omega);have b2:(e.k==2)=false:=bne (by omega);have b3:(e.k==3)=false:=bne (by omega);have Y:(e.k==4)=false:=bne (by omega);have J:(e.k==23)=false:=bne (by omega);have M:(e.k==22)=false:=bne (by omega);have b6:(e.k==6)=false:=bne (by omega);have b7:(e.k==7)=false:=bne (by omega);have aj:(e.k==19)=false:=bne (by omega);have av:(e.k==21)=false:=bne (by omega);have aE:(e.k==20)=true:=by simp[ar]
  clear ar c;have c3:=mj IH e ag Q ao cap wb st w2 o0 m u F f.out;rw[dU] at c3;generalize eP e.k e.n e.nm (λg s=>oFs e.kids (e.k==21) g 0 s) st=q at *;clear F;go_wp2_with fail;refine c3.mono ?_;rintro G w3 ⟨rfl,D,p,b⟩;have l:=t.trans b;have E:=m.stp b;have i:=r.stp b;clear c3 u t m r b p0 p1 p2 p3 p4 d;obtain⟨p0,p1,p2,p3,p4,d⟩:=dS i.1;go_wp2
  go_end0
  exact⟨rfl,D,by rw[A.out];exact p,l⟩
 by_cases an:e.k=24
 ·have A:Hid (oEx e set st=eP e.k e.n e.nm (λg s=>oFs e.kids (e.k==21) g 0 s) st):=c.out;have F:e.k=19\/e.k=20\/e.k=21\/e.k=24\/e.k=25:=by omega
  have b1:(e.k==1)=false:=bne (by omega);have b2:(e.k==2)=false:=bne (by omega);have b3:(e.k==3)=false:=bne (by omega);have Y:(e.k==4)=false:=bne (by omega);have J:(e.k==23)=false:=bne (by omega);have M:(e.k==22)=false:=bne (by omega);have b6:(e.k==6)=false:=bne (by omega);have b7:(e.k==7)=false:=bne (by omega);have aj:(e.k==19)=false:=bne (by omega);have av:(e.k==21)=false:=bne (by omega);have aE:(e.k==20)=false:=bne (by omega);have aO:(e.k==24)=true:=by simp[an]
  clear an c;have c3:=mj IH e ag Q ao cap wb st w2 o0 m u F f.out;rw[dU] at c3;generalize eP e.k e.n e.nm (λg s=>oFs e.kids (e.k==21) g 0 s) st=q at *;clear F;go_wp2_with fail;refine c3.mono ?_;rintro G w3 ⟨rfl,D,p,b⟩;have l:=t.trans b;have E:=m.stp b;have i:=r.stp b;clear c3 u t m r b p0 p1 p2 p3 p4 d;obtain⟨p0,p1,p2,p3,p4,d⟩:=dS i.1;go_wp2
  go_end0
  exact⟨rfl,D,by rw[A.out];exact p,l⟩
 by_cases am:e.k=25
 ·have A:Hid (oEx e set st=eP e.k e.n e.nm (λg s=>oFs e.kids (e.k==21) g 0 s) st):=c.out;have F:e.k=19\/e.k=20\/e.k=21\/e.k=24\/e.k=25:=by omega
  have b1:(e.k==1)=false:=bne (by omega);have b2:(e.k==2)=false:=bne (by omega);have b3:(e.k==3)=false:=bne (by omega);have Y:(e.k==4)=false:=bne (by omega);have J:(e.k==23)=false:=bne (by omega);have M:(e.k==22)=false:=bne (by omega);have b6:(e.k==6)=false:=bne (by omega);have b7:(e.k==7)=false:=bne (by omega);have aj:(e.k==19)=false:=bne (by omega);have av:(e.k==21)=false:=bne (by omega);have aE:(e.k==20)=false:=bne (by omega);have aO:(e.k==24)=false:=bne (by omega);have aY:(e.k==25)=true:=by simp[am]
  clear am c;have c3:=mj IH e ag Q ao cap wb st w2 o0 m u F f.out;rw[dU] at c3;generalize eP e.k e.n e.nm (λg s=>oFs e.kids (e.k==21) g 0 s) st=q at *;clear F;go_wp2_with fail;refine c3.mono ?_;rintro G w3 ⟨rfl,D,p,b⟩;have l:=t.trans b;have E:=m.stp b;have i:=r.stp b;clear c3 u t m r b p0 p1 p2 p3 p4 d;obtain⟨p0,p1,p2,p3,p4,d⟩:=dS i.1;go_wp2
  go_end0
  exact⟨rfl,D,by rw[A.out];exact p,l⟩
 have aA:(gZ e.k).isSome=true/\e.kids.len=2:=by
  have j:=f.out;simp only[Ia] at j;have j:=j.2;have aX:(gZ e.k).isSome=true/\(e.kids.len:Int)=2:=by simpa [eB,h1,h2,U,h4,ap,ai,h6,h7,au,aq,ar,an,am] using j
  exact⟨aX.1,by omega⟩
 obtain⟨x,y,C⟩:=jG aA.2;obtain⟨z,hz⟩:=Option.isSome_iff_exists.1 aA.1;have K:Hid (e.kids=Fs.app .nil (Fs.ex x (Fs.ex y .nil))):=C;have aN:Hid (e.kids=Fs.app (one x) (Fs.ex y .nil)):=by show _=_;rw[C];rfl
 have aa:e.kids.size=x.kids.size+(y.kids.size+0+1)+1:=by rw[C];rfl
 have af:x.kids.size<N:=by omega
 have aT:y.kids.size<N:=by omega
 have ac:=Ex.kidfit Q K.out;have aR:=Ex.kidfit Q aN.out;obtain⟨aH,aG,a1,ay⟩:=Fp hz;have A:Hid (oEx e set st=ib e y 1 (ew ([32]++z.1++[32]) (ib e x 0 st))):=by
  show _=_;rw[c.out];unfold eP;rw[if_neg (by omega),if_neg (by omega),if_neg (by omega),if_neg (by omega),if_neg (by omega),if_neg (by omega),if_neg (by omega)];unfold iM;rw[if_neg (by omega),if_neg (by omega),if_neg (by omega),if_neg (by omega),if_neg (by omega)];simp only[C,oB];have e0:opS e.k 0=([],z.2.2.2.1):=by unfold opS;rw[hz];rfl
  have e1:opS e.k (0+1)=([32]++z.1++[32],z.2.2.2.2):=by unfold opS;rw[hz];rfl
  rw[e0,e1];simp only;rw[wk u,iD e x 0 _ (by rw[ay];rfl) aH.symm,iD e y 1 _ (by rw[ay];rfl) aG.symm];rfl
 have aJ:=EH hz;have a3:=jV z.1;generalize z.1=zx at *;have b1:(e.k==1)=false:=bne (by omega);have b2:(e.k==2)=false:=bne (by omega);have b3:(e.k==3)=false:=bne (by omega);have Y:(e.k==4)=false:=bne (by omega);have J:(e.k==23)=false:=bne (by omega);have M:(e.k==22)=false:=bne (by omega);have b6:(e.k==6)=false:=bne (by omega);have b7:(e.k==7)=false:=bne (by omega);have aj:(e.k==19)=false:=bne (by omega);have av:(e.k==21)=false:=bne (by omega);have aE:(e.k==20)=false:=bne (by omega);have aO:(e.k==24)=false:=bne (by omega);have aY:(e.k==25)=false:=bne (by omega);clear h1 h2 U h4 ap ai h6 h7 au aq ar an am aA C hz aa c f aH aG ay;have c3:=jx IH e x .nil (Fs.ex y .nil) K.out 0 rfl (by omega) af ac ao cap wb st w2 o0 m u;rw[dU] at c3;generalize ib e x 0 st=q at *;go_wp2_with fail;refine c3.mono ?_;rintro G w3 ⟨rfl,D,p,b⟩;have l:=t.trans b;have E:=m.stp b;have i:=r.stp b;clear c3 u t m r b p0 p1 p2 p3 p4 d;obtain⟨p0,p1,p2,p3,p4,d⟩:=dS i.1;have cd:=aJ w3;clear aJ;go_wp2_with fail;refine cd.mono ?_;rintro G w4 ⟨rfl,Y⟩;clear cd;have B:as (λ_=>False) w3 D w4 D:=as.ofB D Y;have R:=i.step B id;have S4:=E.stp0 B;have P:=p.stp0 B;have O:=l.trans B.i12;clear i E p l B Y p0 p1 p2 p3 p4 d;obtain⟨X,aK⟩:=exq D;rw[<-aK] at R S4 P O;clear aK;obtain⟨p0,p1,p2,p3,p4,d⟩:=dS R.1;have c5:=fG ([32]++zx++[32]) P (by simp;omega);have ec:(⟨([32]++zx++[32]).toArray⟩:ByteArray)=⟨#[32]⟩++⟨zx.toArray⟩++⟨#[32]⟩:=by rw[<-xX,<-xX]
 rw[show stv ([32]++zx++[32])=.string (⟨#[32]⟩++⟨zx.toArray⟩++⟨#[32]⟩) by rw[<-ec]] at c5;generalize ew ([32]++zx++[32]) q=al at *;clear ec;go_wp2_with fail;refine c5.mono ?_;rintro G w5 ⟨rfl,o5,H5,W⟩;have T5:=O.trans W;have S5:=S4.stp W;have E5:=R.stp W;clear c5 P O S4 R W p0 p1 p2 p3 p4 d;obtain⟨p0,p1,p2,p3,p4,d⟩:=dS E5.1;have c6:=jx IH e y (one x) .nil aN.out 1 rfl (by omega) (aT) (aR) ao cap wb al w5 o5 S5 H5;rw[dU] at c6;generalize ib e y 1 al=a0 at *;go_wp2_with fail;refine c6.mono ?_;rintro G w6 ⟨rfl,o6,H6,s6⟩;have T6:=T5.trans s6;have S6:=S5.stp s6;have E6:=E5.stp s6;clear c6 H5 T5 S5 E5 s6 p0 p1 p2 p3 p4 d;obtain⟨p0,p1,p2,p3,p4,d⟩:=dS E6.1;go_wp2
 go_end0
 exact⟨rfl,o6,by rw[A.out];exact H6,T6⟩
theorem pR:∀ N,kh N
 | 0=>λe ao cap set wb st w o h=>absurd h (Ir _)
 | N+1=>u9 (pR N)
theorem CM (e:Ex)(ao:Option Hw)(cap:Nat)(w:G9)(he:e.fit)(S:SlT w e.kids ao) :
  Hn G5 136 #[exV e ao cap] w (GJ w (jC e)):=by
 obtain⟨w1,hw1⟩:∃w1,w1=(w.alloc (bxX e ao cap)).alloc (.cells #[.slice G0 0 0,.int .i64 0,.int .i64 0,.bool true] 226):=⟨_,rfl⟩;obtain⟨be,hbe⟩:∃be,be=w.heap.size:=⟨_,rfl⟩;obtain⟨o1,ho1⟩:∃o1:Nat->Nat,o1=λk=>if k=be+1 then 1 else 0:=⟨_,rfl⟩;have B1:Hf be w w1:=by rw[hw1,hbe];exact((Hi _ w).alloc (G4 _) _).alloc (by simp) _
 have E1:w1.heap[be]?=G1 (bxX e ao cap):=by
  rw[hw1,hbe];exact(Hj _ _ _ (by simp)).trans (Hc w _)
 have W1:w1.heap[be+1]?=G1 (.cells #[.slice G0 0 0,.int .i64 0,.int .i64 0,.bool true] 226 (0,0)):=by
  rw[hw1,hbe]
  have:=Hc (w.alloc (bxX e ao cap)) (.cells #[.slice G0 0 0,.int .i64 0,.int .i64 0,.bool true] 226)
  simpa using this
 have L1:∀ k,k<=be->o1 k=0:=λk hk=>by rw[ho1];show (if k=be+1 then 1 else 0)=0;rw[if_neg (by omega)]
 have L2:o1 (be+1)=1:=by rw[ho1];show (if be+1=be+1 then 1 else 0)=1;rw[if_pos rfl]
 have Q1:WQ w1 o1 (be+1) (G1 ⟨[],0,0⟩):=⟨⟨.slice G0 0 0,⟨W1,L2⟩,Row.nil _ _ _ _ _⟩,by simp,by simp,by simp⟩;have S1:Sl w1 (L0 o1) e.kids ao:=S.mono (λi _ hl=>B1.block i (by rw[hbe];exact hl)) B1.size (λi _ hl=>L1 i (by omega));have c2:=pR (e.kids.size+1) e ao cap false (be+1) _ w1 o1 (Nat.lt_succ_self _) he S1 Q1;obtain⟨R,hR⟩:∃R,R=oEx e false (G1 ⟨[],0,0⟩):=⟨_,rfl⟩;rw[<-hR] at c2;have HR:Hid (jC e=R.map (·.t)):=by show _=_;rw[<-BV,hR];rfl
 obtain⟨W,hW⟩:∃W,W=jC e:=⟨_,rfl⟩;rw[<-hW] at HR ⊢;obtain⟨p0,p1,p2,p3,p4,pf⟩:=dS E1;rw[dU] at c2 ⊢;clear S ho1 Q1 S1 hR hW;go_enter Tryz.func136,Tryz.ntmps136;go_upto_region 2 with fail;rw[<-hw1,<-hbe];have HB:Hid (be=w.heap.size):=hbe;clear hw1 hbe W1;go_wp2_with fail;refine c2.mono ?_;rintro e2 w2 ⟨rfl,o2,Q2,s2⟩;have B2:Hf be w w2:=eq B1 s2 (λk hk hi=>by rw[L1 k (by omega)] at hi;rcases hi with h|h<;>omega) (by rw[HB.out];exact G4 _);have B3:Hid (Hf w.heap.size w w2):=by show Hf w.heap.size w w2;rw[<-HB.out];exact B2
 clear c2 s2 B1 B2 L1 L2 p0 p1 p2 p3 p4 pf E1 HB;cases R with
 | none =>
  obtain⟨c3,cf,-,-⟩:=Q2.end;have c3:w2.cell? ⟨be+1,3,G0⟩=G1 (.bool false):=c3;have FIN:Hid (W=G0):=HR.out;clear HR Q2;go_wp2;go_ret2;exact⟨by rw[FIN.out];rfl,B3.out⟩
 | some s =>
  obtain⟨c3,cf,-,-⟩:=Q2.end;have c3:w2.cell? ⟨be+1,3,G0⟩=G1 (.bool true):=c3;obtain⟨⟨v,hb,hr⟩,-⟩:=Q2;obtain⟨d0,d1,d2,d3,df⟩:=Blk.cells4 hb;have F:=AM hr;obtain⟨aov,capv,rfl⟩:=hr.form;have FIN:Hid (W=G1 s.t):=HR.out;clear HR hb hr d1 d2 d3;go_wp2;go_ret2;exact⟨by rw[FIN.out];rfl,B3.out⟩
theorem Ck (e:Ex)(ao:Option Hw)(cap:Nat)(w:G9)(he:e.fit)(S:SlT w e.kids ao) :
  Hn G5 87 #[exV e ao cap] w λx w'=>x=.returned (.bool (jC e).isSome)/\Hf w.heap.size w w':=by
 have B0:Hf w.heap.size w (w.alloc (bxX e ao cap)):=(Hi _ w).alloc (G4 _) _;have E0:(w.alloc (bxX e ao cap)).heap[w.heap.size]?=G1 (bxX e ao cap):=Hc w _;have c1:=CM e ao cap (w.alloc (bxX e ao cap)) he (SlT.below S B0);obtain⟨p0,p1,p2,p3,p4,pf⟩:=dS E0;rw[dU] at c1 ⊢;generalize jC e=W at *;go_enter Tryz.func87,Tryz.ntmps87;go_wp2_with fail;refine c1.mono ?_;rintro e2 w1 ⟨rfl,b1⟩;have B1:=B0.trans (b1.mono B0.size);clear c1 p0 p1 p2 p3 p4 pf E0;cases W with
 | none =>
  go_wp2;go_ret;exact⟨rfl,B1⟩
 | some t =>
  go_wp2;go_ret;exact⟨rfl,B1⟩
abbrev Aq (t:Int × Nat × Int):He:=.tuple #[.int .i64 t.1,.int .i64 (t.2.1:Nat),.int .i64 t.2.2]
theorem AP {e:Ex}(hf:e.fit){t:List UInt8}(h:jC e=G1 t):e.okA/\e.kids.size<=2000/\eQ e.k=false:=by
 unfold jC at h;by_cases hs:eQ e.k=true
 ·rw[if_pos hs] at h;cases h
 ·rw[if_neg hs] at h;cases hh:hE e 0 with
  | none=>rw[hh] at h;cases h
  | some c =>
   obtain⟨h1,h2,h3⟩:=Gm hf hh;exact⟨h1,by omega,by simpa using hs⟩
theorem yb {e:Ex}{t:List UInt8}(h:jC e=G1 t):e.kids.stk (e.k==21):=by
 unfold jC at h;split at h
 ·cases h
 ·cases hh:hE e 0 with
  | none=>rw[hh] at h;cases h
  | some c=>exact EZ hh
theorem ze (e:Ex)(ao:Option Hw)(cap:Nat)(w:G9)(hf:e.fit)(S:SlT w e.kids ao) :
  Hn G5 44 #[exV e ao cap] w λx w'=>x=.returned (Aq (pu e))/\Hf w.heap.size w w':=by
 obtain⟨T,hT⟩:∃T,T=pu e:=⟨_,rfl⟩;rw[<-hT];have HT:Hid (T=pu e):=hT;clear hT;have B0:Hf w.heap.size w (w.alloc (.cells #[.int .i64 e.k,.int .i64 e.n,stv e.nm,.slice ao e.kids.len cap,.int .i64 e.a] 25)):=(Hi _ w).alloc (G4 _) _;have E0:(w.alloc (.cells #[.int .i64 e.k,.int .i64 e.n,stv e.nm,.slice ao e.kids.len cap,.int .i64 e.a] 25)).heap[w.heap.size]?=G1 (.cells #[.int .i64 e.k,.int .i64 e.n,stv e.nm,.slice ao e.kids.len cap,.int .i64 e.a] 25):=Hc w _;have S0:=SlT.below S B0;rw[dU];go_enter Tryz.func44,Tryz.ntmps44;go_upto_region 1 with fail;generalize w.alloc (.cells #[.int .i64 e.k,.int .i64 e.n,stv e.nm,.slice ao e.kids.len cap,.int .i64 e.a] 25)=w0 at *;obtain⟨bx,hbx⟩:∃bx,bx=w.heap.size:=⟨_,rfl⟩;rw[<-hbx] at E0 B0 ⊢;have HB:Hid (bx=w.heap.size):=hbx;clear hbx;obtain⟨p0,p1,p2,p3,p4,pf⟩:=dS E0;have hbx0:=Ha E0;have c1:=Ck e ao cap w0 hf S0;rw[dU] at c1;go_wp2_with fail;refine c1.mono ?_;rintro x w1 ⟨rfl,b1⟩;have E1:=(b1.block _ hbx0).trans E0;have B1:Hf bx w w1:=B0.trans (b1.mono (IM hbx0));have S1:=SlT.below S0 b1;clear c1 b1 p0 p1 p2 p3 p4 pf E0 B0 S0 S;cases hw:jC e with
 | none =>
  have FIN:Hid (T=(0,122,0)):=by show T=_;rw[HT.out];unfold pu;rw[hw]
  simp only[JX];clear HT hw;go_wp2;refine Hb (v:=Aq (0,122,0)) (by simp[Hk,Tryz.results44,go_sem]) rfl ⟨by rw[FIN.out],?_⟩;rw[<-HB.out];exact B1
 | some t =>
  obtain⟨hok,hsz,hset⟩:=AP hf hw;have hsk:=yb hw;simp only[JW];have HT2:Hid (T=(match fa e [] with | .inl (er,a)=>(0,er,a) | .inr k=>(k,0,0))):=by
   show T=_;rw[HT.out];unfold pu;rw[hw];simp only;cases fa e [] with
   | inl z=>obtain⟨er,a⟩:=z;rfl
   | inr k=>rfl
  clear HT hw;have b2:Hf w1.heap.size w1 (w1.alloc (.cells #[.slice G0 0 0,.int .i64 0,.int .i64 0] 139)):=(Hi _ w1).alloc (G4 _) _;have W2:Wk (w1.alloc (.cells #[.slice G0 0 0,.int .i64 0,.int .i64 0] 139)) w1.heap.size (.slice G0 0 0) G0:=⟨Hc w1 _,xq.none⟩;have E2:=(b2.block _ (Ha E1)).trans E1;have B2:=B1.trans (b2.mono (IM (Ha E1)));have S2:Sl (w1.alloc (.cells #[.slice G0 0 0,.int .i64 0,.int .i64 0] 139)) (Nf w1.heap.size) e.kids ao:=S1.mono (λi _ hl=>b2.block i hl) b2.size (λi _ hl=>by show i≠_;omega);have hwb:bx<w1.heap.size:=Ha E1;go_upto_region 5 with fail;generalize w1.alloc (.cells #[.slice G0 0 0,.int .i64 0,.int .i64 0] 139)=w2 at *;generalize w1.heap.size=wb at *;obtain⟨p0,p1,p2,p3,p4,pf⟩:=dS E2;have c4:=wm (e.kids.size+1) e ao cap wb (.slice G0 0 0) [] w2 ⟨by omega,hok,hset,hsk,hf.len,hf.sh,by simp;omega⟩ W2 ⟨Nms.nil w2,λg off n c h=>by cases h⟩ S2;rw[dU] at c4;have hwb2:=Ha W2.blk;clear b2 E1 B1 S1 S2 W2;go_wp2_with fail;refine c4.mono ?_;rintro x w4 ⟨⟨k',rfl,hk'⟩,W4,K4⟩;have HZ:Hid (Hf bx w w4):=B2.trans (K4.below (IM hwb) hwb2);clear c4 K4 p0 p1 p2 p3 p4 pf;obtain⟨q0,q1,q2,qf⟩:=lu W4.blk;cases hc:fa e [] with
  | inl z =>
   obtain⟨er,a⟩:=z;have her:=wa hc;rw[hc] at q1 q2;simp only[stS,erO,plO] at q1 q2;have hne:((er:Int) != 0)=true:=by simp;omega
   have FIN:Hid (T=(0,er,a)):=by show T=_;rw[HT2.out,hc]
   clear HT2 hc her hk' W4;go_wp2_with fail
   go_quiet (fail)
   go_wp2;refine Hb (v:=Aq (0,er,a)) (by simp[Hk,Tryz.results44,go_sem]) rfl ⟨by rw[FIN.out],?_⟩;rw[<-HB.out];exact HZ.out.trans ⟨rfl,rfl,rfl,G4 _,λ_ _=>rfl⟩
  | inr k =>
   obtain rfl:=hk' k hc;rw[hc] at q1 q2;simp only[stS,erO,plO] at q1 q2;have FIN:Hid (T=(k',0,0)):=by show T=_;rw[HT2.out,hc]
   clear HT2 hc hk' W4;go_wp2;refine Hb (v:=Aq (k',0,0)) (by simp[Hk,Tryz.results44,go_sem]) rfl ⟨by rw[FIN.out],?_⟩;rw[<-HB.out];exact HZ.out
def fX:Fs->Fs->Bool
 | ⟨G0⟩,⟨G0⟩=>true
 | ⟨G1 ⟨k,n,nm,_,ks,r⟩⟩,⟨G1 ⟨k',n',nm',_,ks',r'⟩⟩=>k==k'&&n==n'&&nm==nm'&&fX ks ks'&&fX r r'
 | _,_=>false
def eR (a b:Ex):Bool:=a.k==b.k&&a.n==b.n&&a.nm==b.nm&&fX a.kids b.kids
theorem nh:∀ (x y:Fs),x.len≠y.len->fX x y=false
 | ⟨G0⟩,⟨G0⟩,h=>absurd rfl h
 | ⟨G0⟩,⟨G1 ⟨k',n',nm',a',ks',r'⟩⟩,h=>rfl
 | ⟨G1 ⟨k,n,nm,a,ks,r⟩⟩,⟨G0⟩,h=>rfl
 | ⟨G1 ⟨k,n,nm,a,ks,r⟩⟩,⟨G1 ⟨k',n',nm',a',ks',r'⟩⟩,h=>by
  have h2:r.len≠r'.len:=λe=>h (by simp only[Fs.len,e]);simp only[fX,nh r r' h2,Bool.and_false]
theorem lL:∀ (x:Fs),fX x x=true
 | ⟨G0⟩=>rfl
 | ⟨G1 ⟨k,n,nm,a,ks,r⟩⟩=>by simp[fX,lL ks,lL r]
def nmP (k:Int)(nm:List UInt8):Bool:=if k==23 then eH nm else nm==[]
def nuP (nc:Nat)(k n:Int)(ar:Nat):Bool :=
 if k==1 then true else if k==2 then n==0||n==1 else if k==3 then decide (0<=n) else if k==5 then decide (0<=n)&&decide (n<(ar:Int))
 else if k==20 then decide (1<=n)&&decide (n<=10) else if k==21 then decide (1<=n)&&decide (n<=6) else if k==26 then decide (0<=n)&&decide (n<(nc:Int)) else n==0
def wkP (ks:List Int)(i:Nat):Int :=
 match ks[i]? with
 | some k=>if k=4 then 0 else k
 | none=>0
def eK (k n:Int)(ks:List Int):List Int × Int :=
 if k=1 then ([],1) else if k=2 then ([],2) else if k=3\/k=5 then ([],3) else if k=6 then ([1],1) else if k=7 then ([2],2)
 else if 8<=k/\k<=12 then ([1,1],1) else if k=15\/k=16 then ([1,1],2) else if k=17\/k=18 then ([2,2],2)
 else if k=13\/k=14 then ([wkP ks 0,wkP ks 0],2) else if k=19 then ([2,wkP ks 1,wkP ks 1],wkP ks 1)
 else if k=20 then (if n=1\/n=2 then ([3,3],2) else if n=3 then ([3,3],1) else if n=10 then ([3],3) else ([3],1))
 else if k=21 then (if n=1\/n=2 then ([4,2],2) else if n=3 then ([4,2],1) else ([4,1],1))
 else if k=26 then ([wkP ks 0],wkP ks 0) else if k=22\/k=23 then ([],4) else if k=24 then ([3],4) else if k=25 then (Ik ks.length 3,4) else ([],0)
def hgF:Fs->Int->Int
 | ⟨G0⟩,_=>0
 | ⟨G1 ⟨k,n,_,_,ks,r⟩⟩,ar=>max (max (if k=5/\n<ar then n+1 else 0) (hgF ks ar)) (hgF r ar)
def hgE (e:Ex)(ar:Int):Int:=max (if e.k=5/\e.n<ar then e.n+1 else 0) (hgF e.kids ar)
abbrev Rg:=Nat × (Nat->Option Ex)
def eu (pk:Int)(i ar wi:Nat):Nat × Nat:=if pk=21 then (if i=0 then ar else ar+1,wi+1) else (ar,wi)
def fT (cells:List Int)(n:Int)(ks:Fs)(ar:Nat)(s:Rg):Option Rg :=
 match cells[n.toNat]? with
 | none=>G0
 | some lv =>
  if (ar:Int)<lv\/lv<hgE ks.head ar then G0 else
  match s.2 n.toNat with
  | none=>G1 (s.1,λi=>if i=n.toNat then G1 ks.head else s.2 i)
  | some x=>if eR x ks.head then G1 s else G0
def rgF (cells:List Int):Fs->Int->Nat->Nat->Nat->Rg->Option (Rg × List Int)
 | ⟨G0⟩,_,_,_,_,s=>G1 (s,[])
 | ⟨G1 ⟨k,n,nm,a,ks,r⟩⟩,pk,i,ar,wi,s =>
  if 4096<s.1+1\/4<(eu pk i ar wi).2\/nmP k nm=false\/nuP cells.length k n (eu pk i ar wi).1=false then G0 else
  match rgF cells ks k 0 (eu pk i ar wi).1 (eu pk i ar wi).2 (s.1+1,s.2) with
  | none=>G0
  | some (s1,kd) =>
   if (eK k n kd).2=0\/(eK k n kd).1≠kd then G0 else
   match (if k=26 then fT cells n ks (eu pk i ar wi).1 s1 else G1 s1) with
   | none=>G0
   | some s2 =>
    match rgF cells r pk (i+1) ar wi s2 with
    | none=>G0
    | some (s3,rest)=>G1 (s3,(eK k n kd).2::rest)
def fh (cells:List Int)(e:Ex):Int :=
 if 256<cells.length\/cells.any (λc=>decide (c<0)||decide (4<c))=true then 0 else
 match rgF cells (one e) 0 0 0 0 (0,λ_=>G0) with
 | some (_,[k])=>if k=4 then 0 else k
 | _=>0
theorem ru (cells:List Int):∀ (f:Fs) (pk:Int) (i ar wi:Nat) (s s':Rg) (kd:List Int),rgF cells f pk i ar wi s=G1 (s',kd)->kd.length=f.len
 | ⟨G0⟩,pk,i,ar,wi,s,s',kd,h=>by
  simp only[rgF] at h;injection h with h
  injection h with h1 h2
  subst h2;rfl
 | ⟨G1 ⟨k,n,nm,a,ks,r⟩⟩,pk,i,ar,wi,s,s',kd,h=>by
  unfold rgF at h;split at h
  ·cases h
  ·split at h
   ·cases h
   ·split at h
    ·cases h
    ·split at h
     ·cases h
     ·split at h
      ·cases h
      ·rename_i s3 rest h5
       injection h with h
       injection h with h1 h2
       subst h2
       have:=ru cells r pk (i+1) ar wi _ _ _ h5
       simp only[Hy,Fs.len];omega
def rgE (cells:List Int)(e:Ex)(ar wi:Nat)(s:Rg):Option (Rg × Int) :=
 if 4096<s.1+1\/4<wi\/nmP e.k e.nm=false\/nuP cells.length e.k e.n ar=false then G0 else
 match rgF cells e.kids e.k 0 ar wi (s.1+1,s.2) with
 | none=>G0
 | some (s1,kd) =>
  if (eK e.k e.n kd).2=0\/(eK e.k e.n kd).1≠kd then G0 else
  match (if e.k=26 then fT cells e.n e.kids ar s1 else G1 s1) with
  | none=>G0
  | some s2=>G1 (s2,(eK e.k e.n kd).2)
theorem iQ (cells:List Int)(x:Ex)(r:Fs)(pk:Int)(i ar wi:Nat)(s:Rg) :
  rgF cells (Fs.ex x r) pk i ar wi s=(match rgE cells x (eu pk i ar wi).1 (eu pk i ar wi).2 s with
   | none=>G0
   | some (s2,k)=>match rgF cells r pk (i+1) ar wi s2 with
    | none=>G0
    | some (s3,rest)=>G1 (s3,k::rest)):=by
 obtain⟨k,n,nm,a,ks⟩:=x;unfold Fs.ex
 conv=>lhs;unfold rgF
 unfold rgE;simp only;by_cases h1:4096<s.1+1\/4<(eu pk i ar wi).2\/nmP k nm=false\/nuP cells.length k n (eu pk i ar wi).1=false
 ·rw[if_pos h1,if_pos h1]
 ·rw[if_neg h1,if_neg h1];cases rgF cells ks k 0 (eu pk i ar wi).1 (eu pk i ar wi).2 (s.1+1,s.2) with
  | none=>rfl
  | some z =>
   obtain⟨s1,kd⟩:=z;simp only;by_cases h2:(eK k n kd).2=0\/(eK k n kd).1≠kd
   ·rw[if_pos h2,if_pos h2]
   ·rw[if_neg h2,if_neg h2];cases (if k=26 then fT cells n ks (eu pk i ar wi).1 s1 else G1 s1) with
    | none=>rfl
    | some s2=>rfl
theorem mz {cells:List Int}{e:Ex}{ar wi:Nat}{s s':Rg}{k:Int}(h:rgE cells e ar wi s=G1 (s',k)):k≠0:=by
 unfold rgE at h;split at h
 ·cases h
 ·split at h
  ·cases h
  ·split at h
   ·cases h
   ·rename_i h2
    split at h
    ·cases h
    ·injection h with h
     injection h with _ h
     intro h3;exact h2 (.inl (h.trans h3))
abbrev Dg:=Option Rg
def eW (cells:List Int)(st:Dg)(m:Int)(e:Ex)(ar wi:Nat):Dg :=
 match st with
 | none=>G0
 | some s=>match rgE cells e ar wi s with
  | none=>G0
  | some (s',k)=>if k=m then G1 s' else G0
def fE (cells:List Int):Fs->Dg->Int->Nat->Nat->Dg
 | ⟨G0⟩,st,_,_,_=>st
 | ⟨G1 ⟨k,n,nm,a,ks,r⟩⟩,st,m,ar,wi=>fE cells r (eW cells st m ⟨k,n,nm,a,ks⟩ ar wi) m ar wi
theorem jQ (cells:List Int):∀ (f:Fs) (m:Int) (ar wi:Nat),fE cells f G0 m ar wi=G0
 | ⟨G0⟩,m,ar,wi=>rfl
 | ⟨G1 ⟨k,n,nm,a,ks,r⟩⟩,m,ar,wi=>jQ cells r m ar wi
def anD (r:Dg)(g:Int):Option (Rg × Int):=match r with|none=>G0|some s=>G1 (s,g)
theorem wC (cells:List Int)(pk m:Int)(ar wi:Nat)(hk:pk≠21):∀ (f:Fs) (i:Nat) (s:Rg),
  fE cells f (G1 s) m ar wi=(match rgF cells f pk i ar wi s with|none=>G0|some (s',kd)=>if kd=Ik f.len m then G1 s' else G0)
 | ⟨G0⟩,i,s=>by simp[fE,rgF,Fs.len]
 | ⟨G1 ⟨k,n,nm,a,ks,r⟩⟩,i,s=>by
  have hsp:eu pk i ar wi=(ar,wi):=by unfold eu;rw[if_neg hk]
  have h1:=iQ cells ⟨k,n,nm,a,ks⟩ r pk i ar wi s;rw[hsp] at h1;have h2:rgF cells ⟨G1 ⟨k,n,nm,a,ks,r⟩⟩ pk i ar wi s=_:=h1;rw[h2];unfold fE;unfold eW;simp only;cases rgE cells ⟨k,n,nm,a,ks⟩ ar wi s with
  | none=>simp only;exact jQ cells r m ar wi
  | some z =>
   obtain⟨s2,k2⟩:=z;simp only;by_cases hm:k2=m
   ·subst hm;rw[if_pos rfl,wC cells pk k2 ar wi hk r (i+1) s2];cases rgF cells r pk (i+1) ar wi s2 with
    | none=>rfl
    | some z =>
     obtain⟨s3,rest⟩:=z;simp only[Fs.len,List.replicate_succ,Ko,JM]
   ·rw[if_neg hm,jQ];cases rgF cells r pk (i+1) ar wi s2 with
    | none=>rfl
    | some z =>
     obtain⟨s3,rest⟩:=z;simp only[Fs.len,List.replicate_succ,Ko,hm,false_and,if_false]
def gdE (cells:List Int)(e:Ex)(ar wi:Nat)(s:Rg):Prop:=¬(4096<s.1+1\/4<wi\/nmP e.k e.nm=false\/nuP cells.length e.k e.n ar=false)
theorem zV {cells:List Int}{e:Ex}{ar wi:Nat}{s:Rg}(m g:Int)(hg:gdE cells e ar wi s)(h21:e.k≠21)(h26:e.k≠26)(hf:∀ kd:List Int,kd.length=e.kids.len->eK e.k e.n kd=(Ik e.kids.len m,g))(h0:g≠0) :
  rgE cells e ar wi s=anD (fE cells e.kids (G1 (s.1+1,s.2)) m ar wi) g:=by
 unfold rgE;rw[if_neg hg,wC cells e.k m ar wi h21 e.kids 0];cases hr:rgF cells e.kids e.k 0 ar wi (s.1+1,s.2) with
 | none=>rfl
 | some z =>
  obtain⟨s1,kd⟩:=z;simp only;rw[hf kd (ru _ _ _ _ _ _ _ _ _ hr)];simp only;by_cases hk:kd=Ik e.kids.len m
  ·rw[if_pos hk,if_neg (by rintro (h|h);exact h0 h;exact h hk.symm),if_neg h26];rfl
  ·rw[if_neg hk,if_pos (.inr (λh=>hk h.symm))];rfl
theorem jO {cells:List Int}{e:Ex}{ar wi:Nat}{s:Rg}(h:¬gdE cells e ar wi s):rgE cells e ar wi s=G0:=by
 unfold rgE;unfold gdE at h;rw[if_pos (Classical.not_not.1 h)]
theorem zq {cells:List Int}{k n:Int}{nm:List UInt8}{a:Int}{x y:Ex}{ar wi:Nat}{s:Rg}(hk:k=13\/k=14)(hg:gdE cells ⟨k,n,nm,a,Fs.ex x (Fs.ex y .nil)⟩ ar wi s) :
  rgE cells ⟨k,n,nm,a,Fs.ex x (Fs.ex y .nil)⟩ ar wi s=(match rgE cells x ar wi (s.1+1,s.2) with
   | none=>G0
   | some (s1,k0)=>if k0=4 then G0 else anD (eW cells (G1 s1) k0 y ar wi) 2):=by
 have hsp:∀ i,eu k i ar wi=(ar,wi):=λi=>by unfold eu;rw[if_neg (by omega)]
 conv=>lhs;unfold rgE
 rw[if_neg hg];simp only;rw[iQ,hsp];simp only;cases hx:rgE cells x ar wi (s.1+1,s.2) with
 | none=>rfl
 | some z =>
  obtain⟨s1,k0⟩:=z;have h0:=mz hx;simp only;rw[iQ,hsp];simp only[eW];cases hy:rgE cells y ar wi s1 with
  | none=>simp only[anD];split<;>rfl
  | some z =>
   obtain⟨s2,k1⟩:=z;have h1:=mz hy;simp only[rgF];have hf:eK k n [k0,k1]=([wkP [k0,k1] 0,wkP [k0,k1] 0],2):=by
    unfold eK;rcases hk with rfl|rfl<;>simp
   rw[hf];have hw:wkP [k0,k1] 0=if k0=4 then 0 else k0:=rfl;rw[hw];by_cases h4:k0=4
   ·rw[if_pos h4,if_pos h4,if_pos (.inr (by intro h;injection h with h;exact h0 h.symm))]
   ·rw[if_neg h4,if_neg h4];by_cases h5:k1=k0
    ·subst h5;rw[if_neg (by rintro (h|h);cases h;exact h rfl),if_neg (by omega),if_pos rfl];rfl
    ·rw[if_pos (.inr (by intro h;injection h with _ h;injection h with h;exact h5 h.symm)),if_neg h5];rfl
theorem yn {cells:List Int}{n:Int}{nm:List UInt8}{a:Int}{x y z:Ex}{ar wi:Nat}{s:Rg}(hg:gdE cells ⟨19,n,nm,a,Fs.ex x (Fs.ex y (Fs.ex z .nil))⟩ ar wi s) :
  rgE cells ⟨19,n,nm,a,Fs.ex x (Fs.ex y (Fs.ex z .nil))⟩ ar wi s=(match eW cells (G1 (s.1+1,s.2)) 2 x ar wi with
   | none=>G0
   | some s0=>match rgE cells y ar wi s0 with
    | none=>G0
    | some (s1,k0)=>if k0=4 then G0 else anD (eW cells (G1 s1) k0 z ar wi) k0):=by
 have hsp:∀ i,eu 19 i ar wi=(ar,wi):=λi=>by unfold eu;rw[if_neg (by omega)]
 conv=>lhs;unfold rgE
 rw[if_neg hg];simp only;rw[iQ,hsp];simp only[eW];cases hx:rgE cells x ar wi (s.1+1,s.2) with
 | none=>rfl
 | some u =>
  obtain⟨s0,kx⟩:=u;simp only;rw[iQ,hsp];simp only;cases hy:rgE cells y ar wi s0 with
  | none =>
   simp only;by_cases h2:kx=2
   ·rw[if_pos h2];simp only[hy]
   ·rw[if_neg h2]
  | some u =>
   obtain⟨s1,k0⟩:=u;have h0:=mz hy;simp only;rw[iQ,hsp];simp only;have hf:∀ k1,eK 19 n [kx,k0,k1]=([2,if k0=4 then 0 else k0,if k0=4 then 0 else k0],if k0=4 then 0 else k0):=λk1=>by
    unfold eK;simp[wkP]
   by_cases h2:kx=2
   ·subst h2;rw[if_pos rfl];simp only[hy];cases hz:rgE cells z ar wi s1 with
    | none=>simp only[anD];split<;>rfl
    | some u =>
     obtain⟨s2,k1⟩:=u;simp only[rgF];rw[hf];by_cases h4:k0=4
     ·simp only[h4,if_true];rw[if_pos (.inl trivial)]
     ·simp only[h4,if_false];by_cases h5:k1=k0
      ·subst h5;rw[if_neg (by rintro (h|h);exact h0 h;exact h rfl),if_neg (by omega),if_pos rfl];rfl
      ·rw[if_pos (.inr (by intro h;injection h with _ h;injection h with _ h;injection h with h;exact h5 h.symm)),if_neg h5];rfl
   ·rw[if_neg h2];cases hz:rgE cells z ar wi s1 with
    | none=>rfl
    | some u =>
     obtain⟨s2,k1⟩:=u;simp only[rgF];rw[hf];simp only;rw[if_pos (.inr (by intro h;injection h with h;exact h2 h.symm))]
theorem AX {cells:List Int}{n:Int}{nm:List UInt8}{a:Int}{t x:Ex}{ar wi:Nat}{s:Rg}(hg:gdE cells ⟨21,n,nm,a,Fs.ex t (Fs.ex x .nil)⟩ ar wi s)(hn:1<=n/\n<=6) :
  rgE cells ⟨21,n,nm,a,Fs.ex t (Fs.ex x .nil)⟩ ar wi s=anD (eW cells (eW cells (G1 (s.1+1,s.2)) 4 t ar (wi+1)) (fH n) x (ar+1) (wi+1)) (fw n):=by
 have hs0:eu 21 0 ar wi=(ar,wi+1):=rfl;have hs1:eu 21 1 ar wi=(ar+1,wi+1):=rfl
 conv=>lhs;unfold rgE
 rw[if_neg hg];simp only;rw[iQ,hs0];simp only[eW];have hf:∀ k0 k1,eK 21 n [k0,k1]=([4,fH n],fw n):=λk0 k1=>by
  have h6:n=1\/n=2\/n=3\/n=4\/n=5\/n=6:=by omega
  rcases h6 with rfl|rfl|rfl|rfl|rfl|rfl<;>rfl
 have hw:fw n≠0:=by unfold fw;split<;>omega
 cases ht:rgE cells t ar (wi+1) (s.1+1,s.2) with
 | none=>rfl
 | some u =>
  obtain⟨s0,k0⟩:=u;simp only;rw[iQ,hs1];simp only;by_cases h4:k0=4
  ·subst h4;rw[if_pos rfl];simp only;cases hx:rgE cells x (ar+1) (wi+1) s0 with
   | none=>rfl
   | some u =>
    obtain⟨s1,k1⟩:=u;simp only[rgF];rw[hf];simp only;by_cases h5:k1=fH n
    ·rw[if_neg (by rintro (h|h);exact hw h;exact h (by rw[h5])),if_neg (by omega),if_pos h5];rfl
    ·rw[if_pos (.inr (by intro h;injection h with _ h;injection h with h;exact h5 h.symm)),if_neg h5];rfl
  ·rw[if_neg h4];simp only[anD];cases hx:rgE cells x (ar+1) (wi+1) s0 with
   | none=>rfl
   | some u =>
    obtain⟨s1,k1⟩:=u;simp only[rgF];rw[hf];simp only;rw[if_pos (.inr (by intro h;injection h with h;exact h4 h.symm))]
theorem CK {cells:List Int}{e:Ex}{ar wi:Nat}{s:Rg}(h:4<wi):rgE cells e ar wi s=G0:=jO (λhg=>hg (.inr (.inl h)))
theorem yw {cells:List Int}{st:Dg}{m:Int}{e:Ex}{ar wi:Nat}(h:4<wi):eW cells st m e ar wi=G0:=by
 unfold eW;cases st with
 | none=>rfl
 | some s=>simp only[CK h]
theorem Cc {cells:List Int}{n:Int}{nm:List UInt8}{a:Int}{x:Ex}{ar wi:Nat}{s:Rg}(hg:gdE cells ⟨26,n,nm,a,Fs.ex x .nil⟩ ar wi s) :
  rgE cells ⟨26,n,nm,a,Fs.ex x .nil⟩ ar wi s=(match rgE cells x ar wi (s.1+1,s.2) with
   | none=>G0
   | some (s1,k0)=>if k0=4 then G0 else anD (fT cells n (Fs.ex x .nil) ar s1) k0):=by
 have hsp:∀ i,eu 26 i ar wi=(ar,wi):=λi=>by unfold eu;rw[if_neg (by omega)]
 conv=>lhs;unfold rgE
 rw[if_neg hg];simp only;rw[iQ,hsp];simp only;cases hx:rgE cells x ar wi (s.1+1,s.2) with
 | none=>rfl
 | some u =>
  obtain⟨s1,k0⟩:=u;have h0:=mz hx;simp only[rgF];have hf:eK 26 n [k0]=([if k0=4 then 0 else k0],if k0=4 then 0 else k0):=by
   unfold eK;simp[wkP]
  rw[hf];simp only;by_cases h4:k0=4
  ·simp only[h4,if_true];rw[if_pos (.inl trivial)]
  ·simp only[h4,if_false,if_true];rw[if_neg (by rintro (h|h);exact h0 h;exact h rfl)];cases fT cells n (Fs.ex x .nil) ar s1 with
   | none=>rfl
   | some s2=>rfl
def eg (k n:Int)(nm:List UInt8)(len:Nat):Bool :=
 if k=1 then nm==[]&&len==0
 else if k=2 then (n==0||n==1)&&(nm==[]&&len==0)
 else if k=3\/k=5 then decide (0<=n)&&(nm==[]&&len==0)
 else if k=6\/k=7\/k=24 then n==0&&(nm==[]&&len==1)
 else if 8<=k/\k<=18 then n==0&&(nm==[]&&len==2)
 else if k=19 then n==0&&(nm==[]&&len==3)
 else if k=20 then nm==[]&&((decide (1<=n)&&decide (n<=3)&&len==2)||(decide (4<=n)&&decide (n<=10)&&len==1))
 else if k=21 then decide (1<=n)&&(decide (n<=6)&&(nm==[]&&len==2))
 else if k=22 then n==0&&(nm==[]&&len==0)
 else if k=23 then n==0&&(len==0&&eH nm)
 else if k=25 then n==0&&nm==[]
 else if k=26 then nm==[]&&len==1
 else false
theorem gN {cells:List Int}{e:Ex}{ar wi:Nat}{s s':Rg}{k:Int}(h:rgE cells e ar wi s=G1 (s',k)) :
  gdE cells e ar wi s/\∃s1 kd,rgF cells e.kids e.k 0 ar wi (s.1+1,s.2)=G1 (s1,kd)/\kd.length=e.kids.len/\(eK e.k e.n kd).2≠0/\(eK e.k e.n kd).1=kd/\k=(eK e.k e.n kd).2/\(if e.k=26 then fT cells e.n e.kids ar s1 else G1 s1)=G1 s':=by
 unfold rgE at h;split at h
 ·cases h
 ·rename_i hg
  split at h
  ·cases h
  ·rename_i s1 kd hr
   split at h
   ·cases h
   ·rename_i h2
    split at h
    ·cases h
    ·rename_i s2 h3
     injection h with h
     injection h with h4 h5
     subst h4;exact⟨hg,s1,kd,hr,ru _ _ _ _ _ _ _ _ _ hr,λh=>h2 (.inl h),Classical.not_not.1 (λh=>h2 (.inr h)),h5.symm,h3⟩
theorem pg {k n:Int}{kd:List Int}(h:(eK k n kd).2≠0):(1<=k/\k<=3)\/(5<=k/\k<=26):=by
 apply JE;intro hc;apply h;unfold eK
 repeat rw[if_neg (by omega)]
theorem nM {cells:List Int}{e:Ex}{ar wi:Nat}{s s':Rg}{k:Int}(h:rgE cells e ar wi s=G1 (s',k)):eg e.k e.n e.nm e.kids.len=true:=by
 obtain⟨hg,s1,kd,-,hl,h0,h1,-,-⟩:=gN h;obtain⟨k0,n,nm,a,f⟩:=e;unfold gdE at hg;simp only at hg hl h0 h1 ⊢;clear h;have hk:=pg h0;have hlen:(eK k0 n kd).1.length=f.len:=by rw[h1,hl]
 have hc:k0=1\/k0=2\/k0=3\/k0=5\/k0=6\/k0=7\/k0=8\/k0=9\/k0=10\/k0=11\/k0=12\/k0=13\/k0=14\/k0=15\/k0=16\/k0=17\/k0=18\/k0=19\/k0=20\/k0=21\/k0=22\/k0=23\/k0=24\/k0=25\/k0=26:=by omega
 clear h0 h1 hl hk;generalize f.len=m at hlen ⊢;rcases hc with rfl|rfl|rfl|rfl|rfl|rfl|rfl|rfl|rfl|rfl|rfl|rfl|rfl|rfl|rfl|rfl|rfl|rfl|rfl|rfl|rfl|rfl|rfl|rfl|rfl <;>
  simp[nmP,nuP] at hg<;>simp[eK] at hlen<;>simp[eg,hg,<-hlen]
 ·omega
 ·have h10:n=1\/n=2\/n=3\/n=4\/n=5\/n=6\/n=7\/n=8\/n=9\/n=10:=by omega
  rcases h10 with rfl|rfl|rfl|rfl|rfl|rfl|rfl|rfl|rfl|rfl<;>simp
 ·have h10:n=1\/n=2\/n=3\/n=4\/n=5\/n=6:=by omega
  rcases h10 with rfl|rfl|rfl|rfl|rfl|rfl<;>simp
theorem tA {cells:List Int}{e:Ex}{ar wi:Nat}{s:Rg}(h:eg e.k e.n e.nm e.kids.len=false):rgE cells e ar wi s=G0:=by
 cases hr:rgE cells e ar wi s with
 | none=>rfl
 | some z =>
  obtain⟨s',k⟩:=z;rw[nM hr] at h;cases h
theorem gX {k n:Int}{nm:List UInt8}{len:Nat}(h:eg k n nm len=true):k=1\/k=2\/k=3\/k=5\/k=6\/k=7\/k=8\/k=9\/k=10\/k=11\/k=12\/k=13\/k=14\/k=15\/k=16\/k=17\/k=18\/k=19\/k=20\/k=21\/k=22\/k=23\/k=24\/k=25\/k=26:=by
 apply JE;intro hc;unfold eg at h
 repeat rw[if_neg (by omega)] at h
 cases h
theorem li {cells:List Int}{e:Ex}{ar wi:Nat}{s:Rg}(h:eg e.k e.n e.nm e.kids.len=true)(hs:s.1+1<=4096)(hw:wi<=4)(h5:e.k=5->e.n<(ar:Int))(h26:e.k=26->0<=e.n/\e.n<(cells.length:Int)):gdE cells e ar wi s:=by
 obtain⟨k0,n,nm,a,f⟩:=e;have hc:=gX h;simp only at h h5 h26 hc;unfold gdE;simp only;generalize f.len=m at h;have h1:nmP k0 nm=true/\nuP cells.length k0 n ar=true:=by
  rcases hc with rfl|rfl|rfl|rfl|rfl|rfl|rfl|rfl|rfl|rfl|rfl|rfl|rfl|rfl|rfl|rfl|rfl|rfl|rfl|rfl|rfl|rfl|rfl|rfl|rfl <;>
   simp[eg] at h<;>simp[nmP,nuP,h]<;>first|exact h5 rfl|exact h26 rfl|omega
 rw[h1.1,h1.2];simp;omega
def fP (cells:List Int)(e:Ex)(ar wi:Nat)(s:Rg):Option (Rg × Int) :=
 match rgE cells e ar wi s with
 | none=>G0
 | some (s',k)=>if k=4 then G0 else G1 (s',k)
theorem kR {cells:List Int}{e:Ex}{ar wi:Nat}{s:Rg}(h:rgE cells e ar wi s=G0):fP cells e ar wi s=G0:=by unfold fP;rw[h]
theorem wT {cells:List Int}{e:Ex}{ar wi:Nat}{s:Rg}{r:Dg}{g:Int}(h:rgE cells e ar wi s=anD r g)(hg:g≠4):fP cells e ar wi s=anD r g:=by
 unfold fP;rw[h];cases r with
 | none=>rfl
 | some s'=>simp only[anD];rw[if_neg hg]
theorem Br {cells:List Int}{e:Ex}{ar wi:Nat}{s:Rg}{m:Int}(hm:m≠4):eW cells (G1 s) m e ar wi=(match fP cells e ar wi s with|none=>G0|some (s',k)=>if k=m then G1 s' else G0):=by
 simp only[eW,fP];cases rgE cells e ar wi s with
 | none=>rfl
 | some z =>
  obtain⟨s',k⟩:=z;simp only;by_cases h4:k=4
  ·rw[if_pos h4,if_neg (by omega)]
  ·rw[if_neg h4]
theorem ou:∀ {x y:Fs} (z:Fs),fX x y=true->fX y z=fX x z
 | ⟨G0⟩,⟨G0⟩,z,h=>rfl
 | ⟨G0⟩,⟨G1 ⟨k',n',nm',a',ks',r'⟩⟩,z,h=>by cases h
 | ⟨G1 ⟨k,n,nm,a,ks,r⟩⟩,⟨G0⟩,z,h=>by cases h
 | ⟨G1 ⟨k,n,nm,a,ks,r⟩⟩,⟨G1 ⟨k',n',nm',a',ks',r'⟩⟩,⟨G0⟩,h=>rfl
 | ⟨G1 ⟨k,n,nm,a,ks,r⟩⟩,⟨G1 ⟨k',n',nm',a',ks',r'⟩⟩,⟨G1 ⟨k2,n2,nm2,a2,ks2,r2⟩⟩,h=>by
  simp only[fX,Ia,beq_iff_eq] at h;obtain⟨⟨⟨⟨h1,h2⟩,h3⟩,h4⟩,h5⟩:=h;subst h1;subst h2;subst h3;simp only[fX,ou ks2 h4,ou r2 h5]
theorem BQ {x y:Ex}(z:Ex)(h:eR x y=true):eR y z=eR x z:=by
 unfold eR at h ⊢;simp only[Ia,beq_iff_eq] at h;obtain⟨⟨⟨h1,h2⟩,h3⟩,h4⟩:=h;rw[h1,h2,h3,ou z.kids h4]
theorem vG (ar:Int):∀ (f:Fs),0<=hgF f ar
 | ⟨G0⟩=>by simp[hgF]
 | ⟨G1 ⟨k,n,nm,a,ks,r⟩⟩=>by
  have:=vG ar r
  simp only[hgF];exact Int.le_trans this (Int.le_max_right _ _)
theorem uU (ar:Int)(h0:0<=ar):∀ (f:Fs),hgF f ar<=ar
 | ⟨G0⟩=>by simpa [hgF] using h0
 | ⟨G1 ⟨k,n,nm,a,ks,r⟩⟩=>by
  have h1:=uU ar h0 ks;have h2:=uU ar h0 r;have h3:(if k=5/\n<ar then n+1 else 0)<=ar:=by split<;>omega
  simp only[hgF];generalize (if k=5/\n<ar then n+1 else 0)=z at h3 ⊢;omega
theorem mO (ar:Int)(h0:0<=ar)(e:Ex):hgE e ar<=ar:=by
 have h1:=uU ar h0 e.kids;have h3:(if e.k=5/\e.n<ar then e.n+1 else 0)<=ar:=by split<;>omega
 unfold hgE;generalize (if e.k=5/\e.n<ar then e.n+1 else 0)=z at h3 ⊢;omega
theorem ld (ar:Int)(e:Ex):0<=hgE e ar:=by
 have:=vG ar e.kids
 unfold hgE;omega
structure Kp (a b:Nat)(w w':G9):Prop where
 os:w'.os=w.os
 tape:w'.tape=w.tape
 output:w'.output=w.output
 Kb:w.heap.size<=w'.heap.size
 block:∀ k,k<w.heap.size->k≠a->k≠b->w'.heap[k]?=w.heap[k]?
theorem Kp.refl (a b:Nat)(w:G9):Kp a b w w:=⟨rfl,rfl,rfl,G4 _,λ_ _ _ _=>rfl⟩
theorem Kp.trans {p q:Nat}{a b c:G9}(h:Kp p q a b)(k:Kp p q b c):Kp p q a c :=
 ⟨k.os.trans h.os,k.tape.trans h.tape,k.output.trans h.output,In h.size k.size,λi hi hn hm=>(k.block i (Hh hi h.size) hn hm).trans (h.block i hi hn hm)⟩
theorem Kp.ofBelow {a b:Nat}{w w':G9}(h:Hf w.heap.size w w'):Kp a b w w':=⟨h.os,h.tape,h.output,h.size,λk hk _ _=>h.block k hk⟩
theorem Kp.set {p q:Nat}{a w:G9}(h:Kp p q a w)(r:Hw)(u:He)(hp:a.heap.size<=r.block\/r.block=p\/r.block=q):Kp p q a (w.setCell r u) :=
 ⟨h.os,h.tape,h.output,by simpa using h.size,λk hk hn hm=>(Hl w r k u (λe=>by
  rcases hp with hp|hp|hp
  ·omega
  ·exact hn (e.trans hp)
  ·exact hm (e.trans hp))).trans (h.block k hk hn hm)⟩
theorem Kp.alloc {p q:Nat}{a w:G9}(h:Kp p q a w)(ob:Obj):Kp p q a (w.alloc ob):=h.trans ⟨rfl,rfl,rfl,by simp,λk hk _ _=>Hj w ob k hk⟩
theorem Kp.below {a b n:Nat}{w w':G9}(h:Kp a b w w')(ha:n<=a)(hb:n<=b)(hs:n<=w.heap.size):Hf n w w':=⟨h.os,h.tape,h.output,h.size,λk hk=>h.block k (by omega) (by omega) (by omega)⟩
theorem Kp.bel {p q:Nat}{w a b:G9}(B:Hf w.heap.size w a)(K:Kp p q a b):Kp p q w b:=(Kp.ofBelow B).trans K
abbrev Nf2 (a b:Nat):Nat->Prop:=λi=>i≠a/\i≠b
theorem SlN.kp {a b:Nat}{w w':G9}{f:Fs}{ao:Option Hw}(h:SlN w (Nf2 a b) f ao)(k:Kp a b w w'):SlN w' (Nf2 a b) f ao:=h.mono (λi hp hl=>k.block i hl hp.1 hp.2) k.size (λ_ h _=>h)
theorem SlN.belowP {P:Nat->Prop}{w w':G9}{f:Fs}{ao:Option Hw}(h:SlN w P f ao)(b:Hf w.heap.size w w'):SlN w' P f ao:=h.mono (λi _ hl=>b.block i hl) b.size (λ_ h _=>h)
def Inw (w:G9)(P:Nat->Prop)(v:He)(xs:List Int):Prop :=
 ∃ao cap,v=.slice ao xs.length cap/\(xs=[]\/∃b off,ao=G1 ⟨b,off,G0⟩/\P b/\b<w.heap.size/\∀ j x,xs[j]?=G1 x->w.cell? ⟨b,off+j,G0⟩=G1 (.int .i64 x))
theorem Inw.mono {w w':G9}{P Q:Nat->Prop}{v:He}{xs:List Int}(hb:∀ k,P k->k<w.heap.size->w'.heap[k]?=w.heap[k]?)(hs:w.heap.size<=w'.heap.size)(hq:∀ k,P k->k<w.heap.size->Q k)(h:Inw w P v xs):Inw w' Q v xs:=by
 obtain⟨ao,cap,rfl,h⟩:=h;refine⟨ao,cap,rfl,?_⟩;rcases h with h|⟨b,off,rfl,hp,hlt,hc⟩
 ·exact .inl h
 ·exact .inr ⟨b,off,rfl,hq b hp hlt,Hh hlt hs,λj u hu=>(Ho (a:=⟨b,off+j,G0⟩) (hb b hp hlt)).trans (hc j u hu)⟩
theorem Inw.kp {a b:Nat}{w w':G9}{v:He}{xs:List Int}(h:Inw w (Nf2 a b) v xs)(k:Kp a b w w'):Inw w' (Nf2 a b) v xs:=h.mono (λi hp hl=>k.block i hl hp.1 hp.2) k.size (λ_ h _=>h)
theorem Inw.below {P:Nat->Prop}{w w':G9}{v:He}{xs:List Int}(h:Inw w P v xs)(b:Hf w.heap.size w w'):Inw w' P v xs:=h.mono (λi _ hl=>b.block i hl) b.size (λ_ h _=>h)
theorem SlN.kidP {P:Nat->Prop}{w:G9}{x r:Fs}{y:Ex}{ao:Option Hw}(h:SlN w P (x.app (Fs.ex y r)) ao)(i:Nat)(hi:x.len=i):∃b off ak ck,ao=G1 ⟨b,off,G0⟩/\w.cell? ⟨b,off+i*4,G0⟩=G1 (.int .i64 y.k)/\w.cell? ⟨b,off+i*4+1,G0⟩=G1 (.int .i64 y.n)/\w.cell? ⟨b,off+i*4+2,G0⟩=G1 (stv y.nm)/\w.cell? ⟨b,off+i*4+3,G0⟩=G1 (.slice ak y.kids.len ck)/\SlN w P y.kids ak:=by
 subst hi;obtain⟨b,off,ak,ck,rfl,-,-,x0,x1,x2,x3,S⟩:=SlN.kidQ h;exact⟨b,off,ak,ck,rfl,x0,x1,x2,x3,S⟩
end Go.Proofs.YtkhgahljbpmfaaaGreatDoor
