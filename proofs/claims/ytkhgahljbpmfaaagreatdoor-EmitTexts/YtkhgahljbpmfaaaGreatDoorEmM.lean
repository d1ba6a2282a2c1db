import Derived.Test.YtkhgahljbpmfaaaGreatDoorRdqP
import Derived.Defers
import Derived.Recover
import Derived.Laws.Pointers
import Derived.Lib.AtoiAllCases
set_option maxRecDepth 100000
set_option maxHeartbeats 8000000
namespace Go.Proofs.YtkhgahljbpmfaaaGreatDoor
open Option renaming none->GA,some->GB
open Nat renaming le_refl->GC,le_trans->Hn,le_of_lt->Im,sub_self->JR
open Go.Proofs.Tryz renaming prog->GD,results105->IE,results204->Jx
open Go renaming World->GE,lt_of_block->GF,bodyPost_ret->GG,heap_alloc_new->GH,Value->GJ,heap_setCell_other->GP,Calls->GR,maxLen->GY,cell_of_row->Hf,TypeId->Hl,frozen_of_row->Ik,Ending->IG
open List renaming getElem?_eq_getElem->GI,length_append->G4,length_cons->G5,getElem?_eq_none->He,mem_of_find?_eq_some->Hi,replicate->Hk,suffix_cons->Hz,getElem?_map->Ie,not_mem_nil->Io,mem_cons->Iq,mem_of_getElem?->Is,getElem_mem->It,length_nil->IF,cons_append->IP,find?_some->IU,take_append_drop->JA,take_length->JK,take_of_length_le->J8
open Go.RowKit renaming Below->GK,intOf->Hh,wrap64->Ho
open Go.Lib renaming hid->GL,parseUint10->Je,atoiAll->JG
open Go.RowKit.Below renaming refl->GN,heap_alloc->GO
open Bool renaming and_eq_true->Ha,not_eq_true->IJ,or_eq_true->IV
open Go.World renaming setCell->GX,alloc->Ib
open Exists renaming intro->G0
open Go.IntKind renaming wrap_i64->Ii
open UInt8 renaming toNat_lt->Ix
open Go.ByteArray renaming toList_eq->IT
open Or renaming inl->IX
open UInt8.toNat renaming inj->I3
open List.cons renaming injEq->JV
open Go.ChangeShapes Go.WideShapes Go.ChangeAt Go.RowKit
set_option linter.unusedVariables false
set_option linter.unusedSimpArgs false
def EN (rec:Rdr)(m:Nat):Prop :=
 ∀ (w:GE) (rb:Nat) (all:List Tk) (o q:Nat) (st:Sq),(∀ x,x ∈ all->iE x)->QS w rb all o q st->Nou (iV rec m o q) st->GR GD 204 #[.pointer (GB ⟨rb,0,GA⟩)] w (gq rb all o q w st (iV rec m o q))
theorem pB {f:List Tk->Rs Ex}{x:Tk}{r:List Tk}{e a:Nat}(X:Ex)(h:f (x::r)=.bad e a):Qd f (.inr (x::r)) X (.inl (e,a)):=⟨by simp only[onw];rw[h];rfl,λts y t c b=>by cases c;rw[h] at b;cases b⟩
theorem DB {y:Tk}{r:List Tk}(h:y.k=2):Qd (hH 2) (.inr (y::r)) y (.inr r):=⟨by simp[onw,hH,h,stp],λts z t b a=>by cases b;simp[hH,h] at a;exact a.1⟩
theorem QS.downQ {w:GE}{rb o q:Nat}{all:List Tk}{st:Sq}(h:QS w rb all o (q+1) st) :
  ∃c:Int,w.cell? ⟨rb,3,GA⟩=GB (.int .i64 c)/\(∀ j,w.frozen? ⟨rb,j,GA⟩=false)/\QS (w.setCell ⟨rb,3,GA⟩ (.int .i64 (Ho (c-1)))) rb all o q st:=by
 match st,h with
 | .inl (er,a),⟨i,o',c,h1,h2,b⟩ =>
  obtain⟨_,_,_,_,_,_,_,_,_,_,c3,_,_,d⟩:=h1.next (GI h2);exact⟨c,c3,d,i,o',_,h1.set.2.2.1 _,h2,b⟩
 | .inr [],⟨i,pl,h1,h2,b⟩=>exact absurd rfl b.1.ne
 | .inr (x::r),⟨i,pl,h1,h2,b⟩ =>
  obtain⟨f,_,g⟩:=qd h2;obtain⟨_,_,_,_,_,_,_,_,_,_,c3,_,_,d⟩:=h1.next f;refine⟨_,c3,d,i,pl,?_,h2,b.1,b.2.1,by have:=b.2.2;omega⟩;have e:Ho ((((q+1:Nat):Int))-1)=((q:Nat):Int):=by have:=b.2.2;unfold Ho;omega
  rw[e];exact h1.set.2.2.1 _
theorem Dm {rec:Rdr}(R:mI rec){m:Nat}(RS:EN rec m){w:GE}{rb o q n:Nat}{all:List Tk}{x:Tk}{r:List Tk}(TI:∀ x,x ∈ all->iE x)(aM:x.t≠[])(br:n<6)(h:QS w rb all o q (.inr (x::r)))(hn:Nou (gu rec m x.t (n+1) o q) (.inr (x::r))) :
  GR GD 164 #[.pointer (GB ⟨rb,0,GA⟩),.int .i64 n,.int .i64 (x.a:Nat)] w (gq rb all o q w (.inr (x::r)) (gu rec m x.t (n+1) o q)):=by
 have bq:=h.lt;have K0:dX rb w (w.alloc exZ):=(dX.refl rb w).alloc _;have Z0:(w.alloc exZ).heap[w.heap.size]?=GB exZ:=GH w _;have h0:=h.alloc exZ;have bp:w.heap.size<(w.alloc exZ).heap.size:=by simp
 have ax:=h.le;obtain⟨i,g,cap,L,hg,hi,bA,aZ,hL,hm,d0,d1,d2,d3,d4,-,hf⟩:=h0.ok;clear d0 d1 d4 hm;by_cases hA:o=64\/q=4
 ·have EQ:gu rec m x.t (n+1) o q (x::r)=.bad 121 x.a:=by
   unfold gu;by_cases K:q=4
   ·simp[K]
   ·have J:o=64:=by rcases hA with h|h;exact h;exact absurd h K
    simp[K,ej,J,Rs.bind]
  have c1:GR GD 29 #[.pointer (GB ⟨rb,0,GA⟩),.int .i64 121] (w.alloc exZ) λr' w'=>r'=.returned (.tuple #[])/\QS w' rb all o q (.inl (121,x.a))/\dX rb (w.alloc exZ) w':=jN 121 (by decide) h0;have HE:=pB (X:=fN) EQ;clear EQ hn h0;by_cases J:o=64
  ·subst J;clear hA;go_enter Tryz.func164,Tryz.ntmps164;go_wp2_with fail;refine c1.mono ?_;rintro e w1 ⟨rfl,h1,k1⟩;clear c1 d2 d3 hf;have Z1:=k1.blk Z0 (by have:=K0.size;omega);have K1:=K0.trans k1;clear K0 Z0;have KE:=K1.set5 (b:=w.heap.size) (by omega) (.int .i64 0) (.int .i64 0) (stv []) (.slice GA 0 0) (.int .i64 0);have RE:=h1.set5 (b:=w.heap.size) (by omega) (.int .i64 0) (.int .i64 0) (stv []) (.slice GA 0 0) (.int .i64 0);have M:=eT (.int .i64 0) (.int .i64 0) (stv []) (.slice GA 0 0) (.int .i64 0) Z1;obtain⟨z0,z1,z2,z3,z4,zf⟩:=dT Z1;obtain⟨u0,u1,u2,u3,u4,-⟩:=dT M;have B:=HE;clear M K1 Z1 h1;go_wp2;exact GG (v:=exV fN GA 0) (by simp[results,Tryz.results164,go_sem,u0,u1,u2,u3,u4,exV,fN,Fs.len]) rfl ⟨_,_,_,_,rfl,Sl.nil _ _ _,RE,KE,B⟩
  ·have K:q=4:=by rcases hA with h|h;exact absurd h J;exact h
   have aY:((o:Int)==64)=false:=by simp;omega
   subst K;clear hA J;go_enter Tryz.func164,Tryz.ntmps164;go_wp2_with fail;refine c1.mono ?_;rintro e w1 ⟨rfl,h1,k1⟩;clear c1 d2 d3 hf;have Z1:=k1.blk Z0 (by have:=K0.size;omega);have K1:=K0.trans k1;clear K0 Z0;have KE:=K1.set5 (b:=w.heap.size) (by omega) (.int .i64 0) (.int .i64 0) (stv []) (.slice GA 0 0) (.int .i64 0);have RE:=h1.set5 (b:=w.heap.size) (by omega) (.int .i64 0) (.int .i64 0) (stv []) (.slice GA 0 0) (.int .i64 0);have M:=eT (.int .i64 0) (.int .i64 0) (stv []) (.slice GA 0 0) (.int .i64 0) Z1;obtain⟨z0,z1,z2,z3,z4,zf⟩:=dT Z1;obtain⟨u0,u1,u2,u3,u4,-⟩:=dT M;have B:=HE;clear M K1 Z1 h1;go_wp2;exact GG (v:=exV fN GA 0) (by simp[results,Tryz.results164,go_sem,u0,u1,u2,u3,u4,exV,fN,Fs.len]) rfl ⟨_,_,_,_,rfl,Sl.nil _ _ _,RE,KE,B⟩
 ·have ho:o<64:=by have:=ax.1;omega
  have hq:q<4:=by have:=ax.2.1;omega
  have aY:((o:Int)==64)=false:=by simp;omega
  have b4:((q:Int)==4)=false:=by simp;omega
  have EQ:∀ ts,(.inr (x::r):Sq)=.inr ts->gu rec m x.t (n+1) o q ts=(λts=>(ej x.t o ts).bind λa t1=>(hH 2 t1).bind λy t2=>(eD [105,110] t2).bind λ_ t3=>(iV rec m (o+1) (q+1) t3).bind λe t4=>(eD [58] t4).bind λ_ t5=>(rec 1 (o+1) (q+1) t5).bind λb t6=>.ok ⟨21,(n:Int)+1,y.t,a,(one e).snoc b⟩ t6) ts:=λts hs=>by
   cases hs;show (if q=4 then _ else _)=_;rw[if_neg (by omega)];rfl
  have HC:Hid (∀ X ao,Qd (λts=>(ej x.t o ts).bind λa t1=>(hH 2 t1).bind λy t2=>(eD [105,110] t2).bind λ_ t3=>(iV rec m (o+1) (q+1) t3).bind λe t4=>(eD [58] t4).bind λ_ t5=>(rec 1 (o+1) (q+1) t5).bind λb t6=>.ok ⟨21,(n:Int)+1,y.t,a,(one e).snoc b⟩ t6) (.inr (x::r)) X ao->Qd (gu rec m x.t (n+1) o q) (.inr (x::r)) X ao):=λX ao q=>q.congr λts hs=>(EQ ts hs).symm;have C0:=Ctx.start (hn.congr EQ);have C1:=C0.step (md (o:=o) (x:=x) (r:=r) x.t);have h1:=h0.quants (q+1) (by omega);have h2:=h1;rw[show ((q+1:Nat):Int)=(q:Int)+1 by omega] at h2;have e1:onw (ej x.t o) (.inr (x::r))=.inr r:=by simp[onw,ej,stp,show ¬o=64 by omega]
  rw[e1] at C1;have HO:Hid (∀ wx,QS wx rb all o (q+1) (.inr (x::r))->GR GD 104 #[.pointer (GB ⟨rb,0,GA⟩)] wx λe w'=>e=.returned (.tuple #[])/\QS w' rb all (o+1) (q+1) (.inr r)/\dX rb wx w'):=λwx hh=>rE ho aM hh;have k0:=dX.at (rb:=rb) (w.alloc exZ) 3 (.int .i64 ((q:Int)+1));clear EQ hn h0 C0 h1 e1 hA;go_enter Tryz.func164,Tryz.ntmps164;go_upto_region 4 with fail;generalize w.alloc exZ=v0 at *;go_upto_region 5 with fail;generalize v0.setCell ⟨rb,3,GA⟩ (.int .i64 ((q:Int)+1))=w1 at *;clear d2 d3 hf;have Z1:=k0.blk Z0 (by have:=K0.size;omega);have K1:=K0.trans k0;clear K0 Z0;have c2:=HO.out w1 h2;go_wp2_with fail;refine c2.mono ?_;rintro e w2 ⟨rfl,h3,k2⟩;clear c2 HO h2;have Z2:=k2.blk Z1 (by have:=K1.size;omega);have K2:=K1.trans k2;clear K1 Z1;cases r with
  | nil=>exact absurd rfl h3.le.2.2.ne
  | cons y r2 =>
  obtain⟨i3,g3,a4,L3,bx,bv,a1,aR,bF,aO,d0,d1,-,-,-,⟨t0,t1,t2,t3⟩,hf⟩:=h3.ok;have bz:GK w2.heap.size w2 (w2.alloc (.cells #[.int .i64 0,.int .i64 0,.string ⟨#[]⟩,.int .i64 0] 67)):=(GN _ w2).alloc (GC _) _;have af:rb<w2.heap.size:=h3.lt;have ad:g3<w2.heap.size:=by omega
  have aW:=(bz.cell (p:=⟨rb,0,GA⟩) af).trans d0;have aT:=(bz.cell (p:=⟨rb,1,GA⟩) af).trans d1;have u0:=(bz.cell (p:=⟨g3,i3*4,GA⟩) ad).trans t0;have u1:=(bz.cell (p:=⟨g3,i3*4+1,GA⟩) ad).trans t1;have u2:=(bz.cell (p:=⟨g3,i3*4+2,GA⟩) ad).trans t2;have u3:=(bz.cell (p:=⟨g3,i3*4+3,GA⟩) ad).trans t3;have bs:(i3:Int)<(L3:Int):=by omega
  have ap:=jx w2 (.cells #[.int .i64 (y.k:Nat),.int .i64 y.n,stv y.t,.int .i64 (y.a:Nat)] 67);clear bz;go_upto_region 6 with fail;go_cut [7] (λv wx=>∃bt,v=.pointer (GB ⟨bt,0,GA⟩)/\w2.heap.size<=bt/\wx.heap[bt]?=GB (.cells #[.int .i64 (y.k:Nat),.int .i64 y.n,stv y.t,.int .i64 (y.a:Nat)] 67 (0,0))/\GK w2.heap.size w2 wx)
  case first =>
   go_region
   all_goals
    go_wp2;go_meet;exact⟨_,rfl,GC _,ap.1,ap.2⟩
  case rest =>
  obtain⟨bt,rfl,a2,TB,B1⟩:=hcut;clear t0 t1 t2 t3 d0 d1 hf aO aW aT u0 u1 u2 u3 ap;have k3:=dX.ofBelow (rb:=rb) B1;have K:=h3.below B1;have bB:rb<bt:=by have:=h3.lt;omega
  clear h3 B1;have Z3:=k3.blk Z2 (by have:=K2.size;omega);have K3:=K2.trans k3;clear K2 Z2;obtain⟨p0,p1,p2,p3,pf⟩:=Blk.cells4 (o:=λ_=>0) (i:=0) ⟨TB,rfl⟩;by_cases hk:y.k=2
  ·have bk:((y.k:Int)==2)=true:=by simp[hk]
   have aX:((y.k:Int) != 2)=false:=by rw[_root_.bne,bk];rfl
   have C2:=C1.step (DB hk);have aP:y.k≠0:=by omega
   clear C1 hk;obtain⟨i4,g4,a3,L4,bw,bu,a0,aQ,bE,aN,-,d1,-,-,-,-,hf⟩:=K.ok;have h5:=K.over (.inr aP) d1;have k4:=dX.at (rb:=rb) wc 1 (.int .i64 ((i4:Int)+1));clear K;go_upto_region 11 with fail;generalize wc.setCell ⟨rb,1,GA⟩ (.int .i64 ((i4:Int)+1))=w4 at *;clear d1 hf aN p0 p1 p2 p3 pf;have Z4:=k4.blk Z3 (by have:=K3.size;omega);have K4:=K3.trans k4;have al:=k4.blk TB (by omega);clear K3 Z3 TB;have c6:=pn TI [105,110] ⟨by decide,by decide⟩ h5;go_wp2_with fail;refine c6.mono ?_;rintro e w6 ⟨x6,aL,rfl,h6,k6,Q6⟩;have C6:=C2.step Q6;clear c6 Q6 C2;have Z6:=k6.blk Z4 (by have:=K4.size;omega);have K6:=K4.trans k6;have ak:=k6.blk al (by omega);clear K4 Z4 al;have c7:=RS _ rb all (o+1) (q+1) aL TI h6 C6.nou;go_wp2_with fail;refine c7.mono ?_;rintro e w7 ⟨d,s,j,bo,rfl,S7,h7,k7,Q7⟩;have C7:=C6.step Q7;clear c7 Q7 C6;have aI:=S7.low (show (w.heap.size+1)<=_ from (by have:=GF Z6;omega));clear S7;have Z7:=k7.blk Z6 (by have:=K6.size;omega);have K7:=K6.trans k7;have Y:=k7.blk ak (by omega);clear K6 Z6 ak;have aS:=h7.alloc (zEx d s j);have ar:=K7.alloc (zEx d s j);have aF:=(GO w7 (zEx d s j) _ (GF Z7)).trans Z7;have W:=(GO w7 (zEx d s j) _ (GF Y)).trans Y;have ah:(Ib w7 (zEx d s j)).heap[w7.heap.size]?=GB (zEx d s j):=GH w7 _;have G:=aI.allocN (zEx d s j);have bD:rb<w7.heap.size:=by have:=K7.size;omega
   clear h7 K7 Z7 Y aI;rw[dU];have c8:=pn TI [58] ⟨by decide,by decide⟩ aS;go_wp2_with fail;refine c8.mono ?_;rintro e w8 ⟨x8,aK,rfl,h8,k8,Q8⟩;have C8:=C7.step Q8;clear c8 Q8 C7;have Z8:=k8.blk aF (by have:=ar.size;omega);have K8:=ar.trans k8;have aj:=k8.blk W (by omega);have ai:=k8.blk ah (by omega);have ac:=G.keepN k8 (by omega);clear ar aF W ah G;have c9:=R _ rb all 1 (o+1) (q+1) aK TI (by omega) (by omega) h8 C8.nou;go_wp2_with fail;refine c9.mono ?_;rintro e w9 ⟨c,l,f,bn,rfl,S9,h9,k9,Q9⟩;have C9:=C8.step Q9;clear c9 Q9 C8;have aH:=S9.low (show (w.heap.size+1)<=_ from (by have:=GF Z8;omega));clear S9;have Z9:=k9.blk Z8 (by have:=K8.size;omega);have K9:=K8.trans k9;have V:=k9.blk aj (by omega);have Q:=k9.blk ai (by omega);have ab:=ac.keepN k9 (by omega);clear K8 Z8 aj ai ac;have ay:=h9.alloc (zEx c l f);have aq:=K9.alloc (zEx c l f);have aE:=(GO w9 (zEx c l f) _ (GF Z9)).trans Z9;have U:=(GO w9 (zEx c l f) _ (GF V)).trans V;have P:=(GO w9 (zEx c l f) _ (GF Q)).trans Q;have ag:(Ib w9 (zEx c l f)).heap[w9.heap.size]?=GB (zEx c l f):=GH w9 _;have F:=ab.allocN (zEx c l f);have C:=aH.allocN (zEx c l f);have bC:rb<w9.heap.size:=by have:=K9.size;omega
   clear h9 K9 Z9 V Q ab aH;rw[dU];go_upto_region 15 with fail;generalize (Ib w9 (zEx c l f))=an at *;obtain⟨aw,aV,aD,aB⟩:=ay.down;have A:dX rb an _:=dX.at an 2 (.int .i64 (Ho (aw-1)));clear ay;go_upto_region 16 with fail;generalize an.setCell ⟨rb,2,GA⟩ (.int .i64 (Ho (aw-1)))=am at *;clear aV aD;have aG:=A.blk aE (by have:=aq.size;omega);have au:=aq.trans A;have aa:=A.blk U (by omega);have T:=A.blk P (by omega);have O:=A.blk ag (by omega);have I:=F.keepN A (by omega);have E:=C.keepN A (by omega);clear aq aE U P ag F C;obtain⟨av,aU,aC,aA⟩:=aB.downQ;have z:dX rb am _:=dX.at am 3 (.int .i64 (Ho (av-1)));clear aB;go_upto_region 17 with fail;generalize am.setCell ⟨rb,3,GA⟩ (.int .i64 (Ho (av-1)))=u at *;clear aU aC;have ae:=z.blk aG (by have:=au.size;omega);have aJ:=au.trans z;have Z:=z.blk aa (by omega);have S:=z.blk T (by omega);have N:=z.blk O (by omega);have H:=I.keepN z (by omega);have D:=E.keepN z (by omega);clear au aG aa T O I E;have HX:=HC.out _ _ C9.fin;have NS:Sl (Ib u (.cells [.int .i64 d.k,.int .i64 d.n,stv d.nm,.slice s d.kids.len j,.int .i64 d.a,.int .i64 c.k,.int .i64 c.n,stv c.nm,.slice l c.kids.len f,.int .i64 c.a].toArray 25)) (Nw (w.heap.size+1)) ((one d).snoc c) (GB ⟨u.heap.size,0,GA⟩):=Sl.fresh _ 25 (Fc.app (Fc.one (e:=d) j H) (Fc.one (e:=c) f D)) (by have:=GF ae;omega);have KF:=aJ.alloc (.cells [.int .i64 d.k,.int .i64 d.n,stv d.nm,.slice s d.kids.len j,.int .i64 d.a,.int .i64 c.k,.int .i64 c.n,stv c.nm,.slice l c.kids.len f,.int .i64 c.a].toArray 25);have RF:=aA.alloc (.cells [.int .i64 d.k,.int .i64 d.n,stv d.nm,.slice s d.kids.len j,.int .i64 d.a,.int .i64 c.k,.int .i64 c.n,stv c.nm,.slice l c.kids.len f,.int .i64 c.a].toArray 25);have ZF:=(GO u (.cells [.int .i64 d.k,.int .i64 d.n,stv d.nm,.slice s d.kids.len j,.int .i64 d.a,.int .i64 c.k,.int .i64 c.n,stv c.nm,.slice l c.kids.len f,.int .i64 c.a].toArray 25) _ (GF ae)).trans ae;have KE:=KF.set5 (b:=w.heap.size) (by omega) (.int .i64 21) (.int .i64 ((n:Int)+1)) (stv y.t) (.slice (GB ⟨u.heap.size,0,GA⟩) 2 2) (.int .i64 x.a);have RE:=RF.set5 (b:=w.heap.size) (by omega) (.int .i64 21) (.int .i64 ((n:Int)+1)) (stv y.t) (.slice (GB ⟨u.heap.size,0,GA⟩) 2 2) (.int .i64 x.a);have M:=eT (.int .i64 21) (.int .i64 ((n:Int)+1)) (stv y.t) (.slice (GB ⟨u.heap.size,0,GA⟩) 2 2) (.int .i64 x.a) ZF;have SE:Sl _ (Nw w.heap.size) _ _:=(NS.set5 (b:=w.heap.size) (by omega) (.int .i64 21) (.int .i64 ((n:Int)+1)) (stv y.t) (.slice (GB ⟨u.heap.size,0,GA⟩) 2 2) (.int .i64 x.a)).low (by omega);obtain⟨z0,z1,z2,z3,z4,zf⟩:=dT ZF;obtain⟨u0,u1,u2,u3,u4,-⟩:=dT M;obtain⟨bm,bl,bj,bi,bh⟩:=Blk.cells4 (o:=λ_=>0) (i:=0) ⟨Z,rfl⟩;obtain⟨bg,bf,be,bd,bc,bb⟩:=dT S;obtain⟨ba,a9,a8,a7,a6,a5⟩:=dT N;have B:=HX;clear HX M ZF KF RF NS aJ ae aA Z S N H D;go_wp2;exact GG (v:=exV ⟨21,((n:Int)+1),y.t,x.a,((one d).snoc c)⟩ (GB ⟨u.heap.size,0,GA⟩) 2) (by simp[results,Tryz.results164,go_sem,u0,u1,u2,u3,u4,exV];rfl) rfl ⟨_,_,_,_,rfl,SE,RE,KE,B⟩
  ·have bk:((y.k:Int)==2)=false:=by simp;omega
   have aX:((y.k:Int) != 2)=true:=by rw[_root_.bne,bk];rfl
   have HE:=HC.out _ _ (C1.2 fN (.inl (120,y.a)) (pB fN (by simp[hH,hk,Rs.bind])));clear C1 HC hk;have c5:GR GD 29 #[.pointer (GB ⟨rb,0,GA⟩),.int .i64 120] wc λr' w'=>r'=.returned (.tuple #[])/\QS w' rb all (o+1) (q+1) (.inl (120,y.a))/\dX rb wc w':=jN 120 (by decide) K;clear K;go_wp2_with fail;refine c5.mono ?_;rintro e w5 ⟨rfl,az,k5⟩;have h5:=az.bad.2.2 o q;clear c5 az p0 p1 p2 p3 pf TB;have Z5:=k5.blk Z3 (by have:=K3.size;omega);have K5:=K3.trans k5;clear K3 Z3;have KE:=K5.set5 (b:=w.heap.size) (by omega) (.int .i64 0) (.int .i64 0) (stv []) (.slice GA 0 0) (.int .i64 0);have RE:=h5.set5 (b:=w.heap.size) (by omega) (.int .i64 0) (.int .i64 0) (stv []) (.slice GA 0 0) (.int .i64 0);have M:=eT (.int .i64 0) (.int .i64 0) (stv []) (.slice GA 0 0) (.int .i64 0) Z5;obtain⟨z0,z1,z2,z3,z4,zf⟩:=dT Z5;obtain⟨u0,u1,u2,u3,u4,-⟩:=dT M;have B:=HE;clear M K5 Z5 h5;go_wp2;exact GG (v:=exV fN GA 0) (by simp[results,Tryz.results164,go_sem,u0,u1,u2,u3,u4,exV,fN,Fs.len]) rfl ⟨_,_,_,_,rfl,Sl.nil _ _ _,RE,KE,B⟩
theorem qc {f:List Tk->Rs Ex}{x:Tk}{r t:List Tk}{X:Ex}(h:f (x::r)=.ok X t):Qd f (.inr (x::r)) X (.inr t):=⟨by simp only[onw];rw[h];rfl,λts y t2 b a=>by cases b;rw[h] at a;exact(Rs.ok_inj a).1⟩
theorem jq {L:List (List UInt8)}{x:Tk}{r:List Tk}{k:Nat}{s:List UInt8}(c:L[k]?=GB s)(a:x.t=s)(f:∀ j t,j<k->L[j]?=GB t->t≠s):iQ L (.inr (x::r))=(k:Nat):=rt c (by simp[isS,a]) λj t d b=>by
 have:=f j t d b
 simp only[isS,beq_eq_false_iff_ne,a];exact λe=>this e.symm
theorem mq {L:List (List UInt8)}{x:Tk}{r:List Tk}(h:∀ s,s ∈ L->x.t≠s):iQ L (.inr (x::r))=-1:=rl λj t _ a=>by
 have:=h t (Is a)
 simpa [isS] using this
theorem iE.not {x:Tk}(h:iE x)(a:x.k≠3/\x.k≠4){s:List UInt8}(b:s≠[])(c:eE s=false):x.t≠s:=λe=>by
 have:=h s b c
 simp[a.1,a.2,e] at this
theorem BS {w:GE}{rb o q er a:Nat}{all:List Tk}(f:List Tk->Rs Ex)(h:QS w rb all o q (.inl (er,a))) :
  GR GD 204 #[.pointer (GB ⟨rb,0,GA⟩)] w (gq rb all o q w (.inl (er,a)) f):=by
 have g:=h.lt;have e:=h.alloc exZ;have l:dX rb w (w.alloc exZ):=(dX.refl rb w).alloc _;have k:(w.alloc exZ).heap[w.heap.size]?=GB exZ:=GH w _;obtain⟨j,c4,-⟩:=e.bad;have i:((er:Int) != 0)=true:=by simpa using j
 have d:Hid (∀ wx b,(QS wx rb all o q b/\dX rb w wx/\b=.inl (er,a))->gq rb all o q w (.inl (er,a)) f (.returned (exV fN GA 0)) wx):=λwx b c=>⟨fN,GA,0,b,rfl,Sl.nil _ _ _,c.1,c.2.1,by rw[c.2.2];exact Qd.bad f _ _⟩;obtain⟨z0,n,z2,z3,z4,m⟩:=dT k;go_enter Tryz.func204,Tryz.ntmps204;go_wp2;exact GG (v:=exV fN GA 0) (by simp[results,Jx,go_sem,exV,fN,Fs.len]) rfl (d.out _ _ ⟨e,l,rfl⟩)
theorem EV {rec:Rdr}(R:mI rec){w:GE}{rb o q m:Nat}{all:List Tk}{x:Tk}{r:List Tk}(hm:m<=1000000)(TI:∀ x,x ∈ all->iE x)(h:QS w rb all o q (.inr (x::r)))(hn:Nou (iV rec m o q) (.inr (x::r))) :
  GR GD 204 #[.pointer (GB ⟨rb,0,GA⟩)] w (gq rb all o q w (.inr (x::r)) (iV rec m o q)):=by
 have aQ:=h.lt;have K0:dX rb w (w.alloc exZ):=(dX.refl rb w).alloc _;have Z0:(w.alloc exZ).heap[w.heap.size]?=GB exZ:=GH w _;have h0:=h.alloc exZ;have d4:=h0.e0;go_enter Tryz.func204,Tryz.ntmps204;go_upto_region 3 with fail;generalize w.alloc exZ=v0 at *;clear d4;have h3:=h0;clear h0;obtain⟨i3,g3,aG,L3,aT,aS,aE,az,aW,ao,d0,d1,-,-,-,⟨t0,t1,t2,t3⟩,hf⟩:=h3.ok;have bz:GK v0.heap.size v0 (v0.alloc (.cells #[.int .i64 0,.int .i64 0,.string ⟨#[]⟩,.int .i64 0] 67)):=(GN _ v0).alloc (GC _) _;have af:rb<v0.heap.size:=h3.lt;have ae:g3<v0.heap.size:=by omega
 have aC:=(bz.cell (p:=⟨rb,0,GA⟩) af).trans d0;have aB:=(bz.cell (p:=⟨rb,1,GA⟩) af).trans d1;have V:=(bz.cell (p:=⟨g3,i3*4,GA⟩) ae).trans t0;have U:=(bz.cell (p:=⟨g3,i3*4+1,GA⟩) ae).trans t1;have T:=(bz.cell (p:=⟨g3,i3*4+2,GA⟩) ae).trans t2;have u3:=(bz.cell (p:=⟨g3,i3*4+3,GA⟩) ae).trans t3;have aR:(i3:Int)<(L3:Int):=by omega
 have am:=jx v0 (.cells #[.int .i64 (x.k:Nat),.int .i64 x.n,stv x.t,.int .i64 (x.a:Nat)] 67);clear bz;go_upto_region 3 with fail;go_cut [3] (λv wx=>∃bt,v=.pointer (GB ⟨bt,0,GA⟩)/\v0.heap.size<=bt/\wx.heap[bt]?=GB (.cells #[.int .i64 (x.k:Nat),.int .i64 x.n,stv x.t,.int .i64 (x.a:Nat)] 67 (0,0))/\GK v0.heap.size v0 wx)
 case first =>
  go_region
  all_goals
   go_wp2;go_meet;exact⟨_,rfl,GC _,am.1,am.2⟩
 case rest =>
 obtain⟨bt,rfl,aF,TB,B1⟩:=hcut;clear t0 t1 t2 t3 d0 d1 hf aC aB V U T u3 am;have k3:=dX.ofBelow (rb:=rb) B1;have h4:=h3.below B1;have aU:rb<bt:=by have:=h3.lt;omega
 clear h3 B1;have Z3:=k3.blk Z0 (by have:=K0.size;omega);have K3:=K0.trans k3;clear K0 Z0;obtain⟨A,hA⟩:∃A,iQ [[118,101,114,116,105,99,101,115],[97,114,111,117,110,100],[123]] (.inr (x::r))=A:=⟨_,rfl⟩;have WL:Wl wc [[118,101,114,116,105,99,101,115],[97,114,111,117,110,100],[123]] (Ib wc (.cells #[.string ⟨#[118,101,114,116,105,99,101,115]⟩,.string ⟨#[97,114,111,117,110,100]⟩,.string ⟨#[123]⟩] 9)) wc.heap.size:=lR wc [[118,101,114,116,105,99,101,115],[97,114,111,117,110,100],[123]] _;have c5:=jJ TI [[118,101,114,116,105,99,101,115],[97,114,111,117,110,100],[123]] (by decide) (h4.below WL.1) (n:=3) (cap:=3) rfl WL.2.2.1 WL.2.2.2 (by omega) (by unfold GY;omega);go_wp2_with fail;refine c5.mono ?_;rintro e w5 ⟨rfl,b5⟩;have B5:=WL.1.trans (b5.mono WL.1.size);have k5:=dX.ofBelow (rb:=rb) B5;have h5:=h4.below B5;clear WL c5 b5 B5 h4;have Z5:=k5.blk Z3 (by have:=K3.size;omega);have I:=K3.trans k5;have f:=k5.blk TB (by omega);clear K3 Z3 TB;rw[hA];have TX:=TI x ao;clear ao;by_cases l:x.t=[118,101,114,116,105,99,101,115]
 ·obtain rfl:A=0:=hA.symm.trans (jq (k:=0) rfl l (by omega));have J:¬x.k=2:=λe=>TX.not (by omega) (by decide) (by decide) l;have HE:Qd (iV rec m o q) (.inr (x::r)) ⟨22,0,[],(x.a:Nat),.nil⟩ (.inr r):=qc (by simp only[iV,J,l,if_true,if_false]);have al:x.t≠[]:=by rw[l];decide
  clear hA l J TX hn;obtain⟨i6,g6,u,L6,aq,ap,ag,Y,ar,W,-,d1,-,-,-,-,hf⟩:=h5.ok;have S:=h5.over (.inl al) d1;have D:=dX.at (rb:=rb) w5 1 (.int .i64 ((i6:Int)+1));clear h5;go_upto_region 7 with fail;generalize w5.setCell ⟨rb,1,GA⟩ (.int .i64 ((i6:Int)+1))=w6 at *;clear d1 hf W;have E:=D.blk Z5 (by have:=I.size;omega);have G:=I.trans D;have g:=D.blk f (by omega);clear I Z5 f;have KE:=G.set5 (b:=w.heap.size) (by omega) (.int .i64 22) (.int .i64 0) (stv []) (.slice GA 0 0) (.int .i64 x.a);have RE:=S.set5 (b:=w.heap.size) (by omega) (.int .i64 22) (.int .i64 0) (stv []) (.slice GA 0 0) (.int .i64 x.a);have K:=eT (.int .i64 22) (.int .i64 0) (stv []) (.slice GA 0 0) (.int .i64 x.a) E;obtain⟨z0,z1,z2,z3,z4,zf⟩:=dT E;obtain⟨V,U,T,u3,u4,-⟩:=dT K;obtain⟨Q,P,O,N,M⟩:=Blk.cells4 (o:=λ_=>0) (i:=0) ⟨g,rfl⟩;have C:=HE;clear K G E S g;go_wp2;exact GG (v:=exV ⟨22,0,[],x.a,.nil⟩ GA 0) (by simp[results,Jx,go_sem,V,U,T,u3,u4,exV,Fs.len]) rfl ⟨_,_,_,_,rfl,Sl.nil _ _ _,RE,KE,C⟩
 by_cases y:x.t=[97,114,111,117,110,100]
 ·obtain rfl:A=1:=hA.symm.trans (jq (k:=1) rfl y (λj t hj ht=>by (obtain rfl:j=0:=by omega);simp at ht;subst ht;decide));have J:¬x.k=2:=λe=>TX.not (by omega) (by decide) (by decide) y;have C1:=(Ctx.start hn).eat (H:=(λts=>(ej [40] o ts).bind λ_ t1=>(rec 1 (o+1) q t1).bind λe t2=>(eD [41] t2).bind λ_ t4=>.ok ⟨24,0,[],(x.a:Nat),one e⟩ t4)) (by simp only[iV,J,l,y,if_true,if_false,iK,jy,Rs.bind_assoc,Rs.ok_bind,JR];rfl);have al:x.t≠[]:=by rw[y];decide
  clear hA l y J TX hn;obtain⟨i6,g6,u,L6,aq,ap,ag,Y,ar,W,-,d1,-,-,-,-,hf⟩:=h5.ok;have S:=h5.over (.inl al) d1;have D:=dX.at (rb:=rb) w5 1 (.int .i64 ((i6:Int)+1));clear h5;go_upto_region 10 with fail;generalize w5.setCell ⟨rb,1,GA⟩ (.int .i64 ((i6:Int)+1))=w6 at *;clear d1 hf W;have E:=D.blk Z5 (by have:=I.size;omega);have G:=I.trans D;have g:=D.blk f (by omega);clear I Z5 f;have c7:=kV TI [40] ⟨by decide,by decide⟩ S;go_wp2_with fail;refine c7.mono ?_;rintro e w7 ⟨x7,ax,rfl,h7,k7,Q7⟩;have C7:=C1.step Q7;clear c7 Q7 C1;have Z7:=k7.blk E (by have:=G.size;omega);have K7:=G.trans k7;have aj:=k7.blk g (by omega);clear G E g;have c8:=R _ rb all 1 (o+1) (q) ax TI (by omega) (by omega) h7 C7.nou;go_wp2_with fail;refine c8.mono ?_;rintro e w8 ⟨c,z,d,aO,rfl,S8,h8,k8,Q8⟩;have C8:=C7.step Q8;clear c8 Q8 C7;have av:=S8.low (show (w.heap.size+1)<=_ from (by have:=GF Z7;omega));clear S8;have Z8:=k8.blk Z7 (by have:=K7.size;omega);have K8:=K7.trans k8;have ac:=k8.blk aj (by omega);clear K7 Z7 aj;have aA:=h8.alloc (zEx c z d);have an:=K8.alloc (zEx c z d);have au:=(GO w8 (zEx c z d) _ (GF Z8)).trans Z8;have ab:=(GO w8 (zEx c z d) _ (GF ac)).trans ac;have ah:(Ib w8 (zEx c z d)).heap[w8.heap.size]?=GB (zEx c z d):=GH w8 _;have L:=av.allocN (zEx c z d);have aV:rb<w8.heap.size:=by have:=K8.size;omega
  clear h8 K8 Z8 ac av;rw[dU];have c9:=lh TI [41] ⟨by decide,by decide⟩ aA;go_wp2_with fail;refine c9.mono ?_;rintro e w9 ⟨x9,aN,rfl,h9,k9,Q9⟩;have C9:=C8.step Q9;clear c9 Q9 C8;have Z9:=k9.blk au (by have:=an.size;omega);have K9:=an.trans k9;have aa:=k9.blk ab (by omega);have ai:=k9.blk ah (by omega);have ad:=L.keepN k9 (by omega);clear an au ab ah L;have NS:Sl (Ib w9 (.cells [.int .i64 c.k,.int .i64 c.n,stv c.nm,.slice z c.kids.len d,.int .i64 c.a].toArray 25)) (Nw (w.heap.size+1)) (one c) (GB ⟨w9.heap.size,0,GA⟩):=Sl.fresh _ 25 (Fc.one (e:=c) d ad) (by have:=GF Z9;omega);have KF:=K9.alloc (.cells [.int .i64 c.k,.int .i64 c.n,stv c.nm,.slice z c.kids.len d,.int .i64 c.a].toArray 25);have RF:=h9.alloc (.cells [.int .i64 c.k,.int .i64 c.n,stv c.nm,.slice z c.kids.len d,.int .i64 c.a].toArray 25);have ZF:=(GO w9 (.cells [.int .i64 c.k,.int .i64 c.n,stv c.nm,.slice z c.kids.len d,.int .i64 c.a].toArray 25) _ (GF Z9)).trans Z9;have KE:=KF.set5 (b:=w.heap.size) (by omega) (.int .i64 24) (.int .i64 0) (stv []) (.slice (GB ⟨w9.heap.size,0,GA⟩) 1 1) (.int .i64 x.a);have RE:=RF.set5 (b:=w.heap.size) (by omega) (.int .i64 24) (.int .i64 0) (stv []) (.slice (GB ⟨w9.heap.size,0,GA⟩) 1 1) (.int .i64 x.a);have K:=eT (.int .i64 24) (.int .i64 0) (stv []) (.slice (GB ⟨w9.heap.size,0,GA⟩) 1 1) (.int .i64 x.a) ZF;have SE:Sl _ (Nw w.heap.size) _ _:=(NS.set5 (b:=w.heap.size) (by omega) (.int .i64 24) (.int .i64 0) (stv []) (.slice (GB ⟨w9.heap.size,0,GA⟩) 1 1) (.int .i64 x.a)).low (by omega);obtain⟨z0,z1,z2,z3,z4,zf⟩:=dT ZF;obtain⟨V,U,T,u3,u4,-⟩:=dT K;have aD:bt<w9.heap.size:=GF aa;obtain⟨Q,P,O,N,M⟩:=Blk.cells4 (o:=λ_=>0) (i:=0) ⟨aa,rfl⟩;obtain⟨aM,aL,aK,aJ,aI,aH⟩:=dT ai;have C:=C9.fin;clear C9 K ZF KF RF NS K9 Z9 h9 aa ai ad;go_wp2;exact GG (v:=exV ⟨24,0,[],x.a,(one c)⟩ (GB ⟨w9.heap.size,0,GA⟩) 1) (by simp[results,Jx,go_sem,V,U,T,u3,u4,exV];rfl) rfl ⟨_,_,_,_,rfl,SE,RE,KE,C⟩
 by_cases F:x.t=[123]
 ·obtain rfl:A=2:=hA.symm.trans (jq (k:=2) rfl F (λj t hj ht=>by (obtain rfl|rfl:j=0\/j=1:=by omega)<;>simp at ht<;>subst ht<;>decide));have J:¬x.k=2:=λe=>TX.not (by omega) (by decide) (by decide) F;have EQ:∀ ts,(.inr (x::r):Sq)=.inr ts->iV rec m o q ts=sD rec m o q ts:=λts hs=>by
   cases hs;simp only[iV,J,l,y,if_false];rfl
  have HN:=hn.congr EQ;have HC:Hid (∀ X ak,Qd (sD rec m o q) (.inr (x::r)) X ak->Qd (iV rec m o q) (.inr (x::r)) X ak):=λX ak q=>q.congr λts hs=>(EQ ts hs).symm;clear EQ hA l y F J TX hn;obtain⟨Q,P,O,N,M⟩:=Blk.cells4 (o:=λ_=>0) (i:=0) ⟨f,rfl⟩;have c6:=Ef R hm TI h5 HN;go_wp2_with fail;refine c6.mono ?_;rintro e w6 ⟨B,Z,u,aP,rfl,S6,S,D,Q6⟩;have HX:=HC.out _ _ Q6;clear c6 Q6 h5 Q P O N M;have aw:=S6.low (show (w.heap.size+1)<=_ from (by have:=GF Z5;omega));clear S6;have E:=D.blk Z5 (by have:=I.size;omega);have G:=I.trans D;have g:=D.blk f (by omega);clear I Z5 f;have KE:=G.set5 (b:=w.heap.size) (by omega) (.int .i64 B.k) (.int .i64 B.n) (stv B.nm) (.slice Z B.kids.len u) (.int .i64 B.a);have RE:=S.set5 (b:=w.heap.size) (by omega) (.int .i64 B.k) (.int .i64 B.n) (stv B.nm) (.slice Z B.kids.len u) (.int .i64 B.a);have K:=eT (.int .i64 B.k) (.int .i64 B.n) (stv B.nm) (.slice Z B.kids.len u) (.int .i64 B.a) E;have SE:Sl _ (Nw w.heap.size) _ _:=(aw.set5 (b:=w.heap.size) (by omega) (.int .i64 B.k) (.int .i64 B.n) (stv B.nm) (.slice Z B.kids.len u) (.int .i64 B.a)).low (by omega);obtain⟨z0,z1,z2,z3,z4,zf⟩:=dT E;obtain⟨V,U,T,u3,u4,-⟩:=dT K;have C:=HX;clear K G E S g aw;rw[dU];go_wp2;exact GG (v:=exV B Z u) (by simp[results,Jx,go_sem,V,U,T,u3,u4,exV]) rfl ⟨_,_,_,_,rfl,SE,RE,KE,C⟩
 obtain rfl:A=-1:=hA.symm.trans (mq (by simp only[Iq,Io,or_false];rintro s (rfl|rfl|rfl);exact l;exact y;exact F));by_cases J:x.k=2
 ·have HE:Qd (iV rec m o q) (.inr (x::r)) ⟨23,0,x.t,(x.a:Nat),.nil⟩ (.inr r):=qc (by simp only[iV,J,if_true]);have bk:((x.k:Int)==2)=true:=by simp[J]
  have ay:x.k≠0:=by omega
  clear hA l y F J TX hn;obtain⟨q0,q1,q2,q3,qf⟩:=Blk.cells4 (o:=λ_=>0) (i:=0) ⟨f,rfl⟩;obtain⟨i6,g6,u,L6,aq,ap,ag,Y,ar,W,-,d1,-,-,-,-,hf⟩:=h5.ok;have S:=h5.over (.inr ay) d1;have D:=dX.at (rb:=rb) w5 1 (.int .i64 ((i6:Int)+1));clear h5;go_upto_region 18 with fail;generalize w5.setCell ⟨rb,1,GA⟩ (.int .i64 ((i6:Int)+1))=w6 at *;clear d1 hf W;have E:=D.blk Z5 (by have:=I.size;omega);have G:=I.trans D;have g:=D.blk f (by omega);clear I Z5 f;clear q0 q1 q2 q3 qf;have KE:=G.set5 (b:=w.heap.size) (by omega) (.int .i64 23) (.int .i64 0) (stv x.t) (.slice GA 0 0) (.int .i64 x.a);have RE:=S.set5 (b:=w.heap.size) (by omega) (.int .i64 23) (.int .i64 0) (stv x.t) (.slice GA 0 0) (.int .i64 x.a);have K:=eT (.int .i64 23) (.int .i64 0) (stv x.t) (.slice GA 0 0) (.int .i64 x.a) E;obtain⟨z0,z1,z2,z3,z4,zf⟩:=dT E;obtain⟨V,U,T,u3,u4,-⟩:=dT K;obtain⟨Q,P,O,N,M⟩:=Blk.cells4 (o:=λ_=>0) (i:=0) ⟨g,rfl⟩;have C:=HE;clear K G E S g;go_wp2;exact GG (v:=exV ⟨23,0,x.t,x.a,.nil⟩ GA 0) (by simp[results,Jx,go_sem,V,U,T,u3,u4,exV,Fs.len]) rfl ⟨_,_,_,_,rfl,Sl.nil _ _ _,RE,KE,C⟩
 ·have HE:Qd (iV rec m o q) (.inr (x::r)) fN (.inl (120,x.a)):=pB fN (by simp only[iV,J,l,y,if_false];simp[ej,F,Rs.bind]);have bk:((x.k:Int)==2)=false:=by simp;omega
  clear hA l y F J TX hn;have c6:GR GD 29 #[.pointer (GB ⟨rb,0,GA⟩),.int .i64 120] w5 λr' w'=>r'=.returned (.tuple #[])/\QS w' rb all o q (.inl (120,x.a))/\dX rb w5 w':=jN 120 (by decide) h5;obtain⟨Q,P,O,N,M⟩:=Blk.cells4 (o:=λ_=>0) (i:=0) ⟨f,rfl⟩;go_wp2_with fail;refine c6.mono ?_;rintro e w6 ⟨rfl,S,D⟩;clear c6 h5 f Q P O N M;have E:=D.blk Z5 (by have:=I.size;omega);have G:=I.trans D;clear I Z5;have KE:=G.set5 (b:=w.heap.size) (by omega) (.int .i64 0) (.int .i64 0) (stv []) (.slice GA 0 0) (.int .i64 0);have RE:=S.set5 (b:=w.heap.size) (by omega) (.int .i64 0) (.int .i64 0) (stv []) (.slice GA 0 0) (.int .i64 0);have K:=eT (.int .i64 0) (.int .i64 0) (stv []) (.slice GA 0 0) (.int .i64 0) E;obtain⟨z0,z1,z2,z3,z4,zf⟩:=dT E;obtain⟨V,U,T,u3,u4,-⟩:=dT K;have C:=HE;clear K G E S;go_wp2;exact GG (v:=exV fN GA 0) (by simp[results,Jx,go_sem,V,U,T,u3,u4,exV,fN,Fs.len]) rfl ⟨_,_,_,_,rfl,Sl.nil _ _ _,RE,KE,C⟩
theorem F4 {rec:Rdr}(R:mI rec){m:Nat}(c:m<=1000000):EN rec m:=by
 intro w rb all o q st d h b
 match st,h,b with
 | .inl (er,a),h,b=>exact BS _ h
 | .inr [],h,b=>exact absurd rfl (h.nn [] rfl)
 | .inr (x::r),h,b=>exact EV R c d h b
theorem Fp:∀ s,s ∈ cwL->s≠[]/\eE s=false:=by decide
theorem EC:∀ s,s ∈ qwL->s≠[]/\eE s=false:=by decide
theorem yy {x:Tk}{r:List Tk}(h:pg x.t=GA):iQ cwL (.inr (x::r))=-1:=mq λs b e=>by
 obtain⟨z,a,rfl⟩:=List.mem_map.1 b
 have:=List.find?_eq_none.1 h z a
 simp[e] at this
theorem uG {x:Tk}{r:List Tk}(h:mu x.t=GA):iQ qwL (.inr (x::r))=-1:=mq λs b e=>by
 obtain⟨z,a,rfl⟩:=List.mem_map.1 b
 have:=List.find?_eq_none.1 h z a
 simp[e] at this
theorem sC {L:List (List UInt8)}(i:L.Nodup){k:Nat}{s:List UInt8}(g:L[k]?=GB s):∀ j t,j<k->L[j]?=GB t->t≠s:=λj t h f e=>by
 subst e;obtain⟨b,a⟩:=List.getElem?_eq_some_iff.1 g;obtain⟨d,c⟩:=List.getElem?_eq_some_iff.1 f;exact(List.pairwise_iff_getElem.1 i j k d b h) (c.trans a.symm)
theorem yc {x:Tk}{r:List Tk}{z:List UInt8 × Nat × Nat}(h:pg x.t=GB z):∃i:Nat,iQ cwL (.inr (x::r))=(i:Nat)/\i<10/\z.2.1=i+1/\z.2.2=(if i<3 then 2 else 1)/\x.t≠[]:=by
 have e:z ∈ gX:=Hi h;have b:=IU h;simp only[beq_iff_eq] at b;obtain⟨i,c,d⟩:=List.getElem_of_mem e;have f:gX.length=10:=rfl;have h1:cwL[i]?=GB z.1:=by
  rw[cwL,Ie,GI c,d];rfl
 have a:∀ i,(h:i<gX.length)->gX[i].2.1=i+1/\gX[i].2.2=(if i<3 then 2 else 1)/\gX[i].1≠[]:=by decide
 have:=a i c
 rw[d] at this;exact⟨i,jq h1 b.symm (sC (by decide) h1),by omega,this.1,this.2.1,by rw[<-b];exact this.2.2⟩
theorem uE {x:Tk}{r:List Tk}{z:List UInt8 × Nat}(h:mu x.t=GB z):∃i:Nat,iQ qwL (.inr (x::r))=(i:Nat)/\i<6/\z.2=i+1/\x.t≠[]:=by
 have e:z ∈ gL:=Hi h;have b:=IU h;simp only[beq_iff_eq] at b;obtain⟨i,c,d⟩:=List.getElem_of_mem e;have f:gL.length=6:=rfl;have h1:qwL[i]?=GB z.1:=by
  rw[qwL,Ie,GI c,d];rfl
 have a:∀ i,(h:i<gL.length)->gL[i].2=i+1/\gL[i].1≠[]:=by decide
 have:=a i c
 rw[d] at this;exact⟨i,jq h1 b.symm (sC (by decide) h1),by omega,this.1,by rw[<-b];exact this.2⟩
theorem Da {y:Tk}{r:List Tk}(h:y.k=1):Qd (hH 1) (.inr (y::r)) y (.inr r):=⟨by simp[onw,hH,h,stp],λts z t b a=>by cases b;simp[hH,h] at a;exact a.1⟩
theorem Ea {rec:Rdr}(R:mI rec){m:Nat}(RS:EN rec m){w:GE}{rb o q:Nat}{all:List Tk}{x:Tk}{r:List Tk}(TI:∀ x,x ∈ all->iE x)(h:QS w rb all o q (.inr (x::r)))(hn:Nou (fv rec m o q) (.inr (x::r))) :
  GR GD 105 #[.pointer (GB ⟨rb,0,GA⟩)] w (gq rb all o q w (.inr (x::r)) (fv rec m o q)):=by
 have bS:=h.lt;have K0:dX rb w (w.alloc exZ):=(dX.refl rb w).alloc _;have Z0:(w.alloc exZ).heap[w.heap.size]?=GB exZ:=GH w _;have h0:=h.alloc exZ;have d4:=h0.e0;go_enter Tryz.func105,Tryz.ntmps105;go_upto_region 3 with fail;generalize w.alloc exZ=v0 at *;clear d4;have h3:=h0;clear h0;obtain⟨i3,g3,bP,L3,bU,bT,bJ,br,bX,a6,d0,d1,-,-,-,⟨t0,t1,t2,t3⟩,hf⟩:=h3.ok;have bz:GK v0.heap.size v0 (v0.alloc (.cells #[.int .i64 0,.int .i64 0,.string ⟨#[]⟩,.int .i64 0] 67)):=(GN _ v0).alloc (GC _) _;have aq:rb<v0.heap.size:=h3.lt;have an:g3<v0.heap.size:=by omega
 have a8:=(bz.cell (p:=⟨rb,0,GA⟩) aq).trans d0;have a7:=(bz.cell (p:=⟨rb,1,GA⟩) aq).trans d1;have u0:=(bz.cell (p:=⟨g3,i3*4,GA⟩) an).trans t0;have u1:=(bz.cell (p:=⟨g3,i3*4+1,GA⟩) an).trans t1;have u2:=(bz.cell (p:=⟨g3,i3*4+2,GA⟩) an).trans t2;have u3:=(bz.cell (p:=⟨g3,i3*4+3,GA⟩) an).trans t3;have bp:(i3:Int)<(L3:Int):=by omega
 have aA:=jx v0 (.cells #[.int .i64 (x.k:Nat),.int .i64 x.n,stv x.t,.int .i64 (x.a:Nat)] 67);clear bz;go_upto_region 3 with fail;go_cut [3] (λv wx=>∃bt,v=.pointer (GB ⟨bt,0,GA⟩)/\v0.heap.size<=bt/\wx.heap[bt]?=GB (.cells #[.int .i64 (x.k:Nat),.int .i64 x.n,stv x.t,.int .i64 (x.a:Nat)] 67 (0,0))/\GK v0.heap.size v0 wx)
 case first =>
  go_region
  all_goals
   go_wp2;go_meet;exact⟨_,rfl,GC _,aA.1,aA.2⟩
 case rest =>
 obtain⟨bt,rfl,bL,TB,B1⟩:=hcut;clear t0 t1 t2 t3 d0 d1 hf a8 a7 u0 u1 u2 u3 aA;have k3:=dX.ofBelow (rb:=rb) B1;have h4:=h3.below B1;have bW:rb<bt:=by have:=h3.lt;omega
 clear h3 B1;have Z3:=k3.blk Z0 (by have:=K0.size;omega);have K3:=K0.trans k3;clear K0 Z0;obtain⟨A1,ad⟩:∃A,iQ cwL (.inr (x::r))=A:=⟨_,rfl⟩;obtain⟨A2,ac⟩:∃A,iQ qwL (.inr (x::r))=A:=⟨_,rfl⟩;obtain⟨A3,Z⟩:∃A,iQ [[102,97,108,115,101],[116,114,117,101]] (.inr (x::r))=A:=⟨_,rfl⟩;obtain⟨A4,V⟩:∃A,iQ [[64],[40],[105,102]] (.inr (x::r))=A:=⟨_,rfl⟩;have c5:=wN wc;go_wp2_with fail;refine c5.mono ?_;rintro e w5 ⟨g5,rfl,WL⟩;clear c5;have c6:=jJ TI cwL Fp (h4.below WL.1) (n:=10) (cap:=10) rfl WL.2.2.1 WL.2.2.2 (by omega) (by unfold GY;omega);go_wp2_with fail;refine c6.mono ?_;rintro e w6 ⟨rfl,b6⟩;have B6:=WL.1.trans (b6.mono WL.1.size);have k6:=dX.ofBelow (rb:=rb) B6;have h6:=h4.below B6;clear WL c6 b6 B6 h4;have Z6:=k6.blk Z3 (by have:=K3.size;omega);have K6:=K3.trans k6;have a3:=k6.blk TB (by omega);clear K3 Z3 TB;rw[ad];have c7:=oZ w6;go_wp2_with fail;refine c7.mono ?_;rintro e w7 ⟨g7,rfl,WL⟩;clear c7;have c8:=jJ TI qwL EC (h6.below WL.1) (n:=6) (cap:=6) rfl WL.2.2.1 WL.2.2.2 (by omega) (by unfold GY;omega);go_wp2_with fail;refine c8.mono ?_;rintro e w8 ⟨rfl,b8⟩;have B8:=WL.1.trans (b8.mono WL.1.size);have k8:=dX.ofBelow (rb:=rb) B8;have h8:=h6.below B8;clear WL c8 b8 B8 h6;have Z8:=k8.blk Z6 (by have:=K6.size;omega);have K8:=K6.trans k8;have a2:=k8.blk a3 (by omega);clear K6 Z6 a3;rw[ac];have WL:Wl w8 [[102,97,108,115,101],[116,114,117,101]] (Ib w8 (.cells #[.string ⟨#[102,97,108,115,101]⟩,.string ⟨#[116,114,117,101]⟩] 9)) w8.heap.size:=lR w8 [[102,97,108,115,101],[116,114,117,101]] _;have c9:=jJ TI [[102,97,108,115,101],[116,114,117,101]] (by decide) (h8.below WL.1) (n:=2) (cap:=2) rfl WL.2.2.1 WL.2.2.2 (by omega) (by unfold GY;omega);go_wp2_with fail;refine c9.mono ?_;rintro e w9 ⟨rfl,b9⟩;have B9:=WL.1.trans (b9.mono WL.1.size);have k9:=dX.ofBelow (rb:=rb) B9;have h9:=h8.below B9;clear WL c9 b9 B9 h8;have Z9:=k9.blk Z8 (by have:=K8.size;omega);have K9:=K8.trans k9;have a1:=k9.blk a2 (by omega);clear K8 Z8 a2;rw[Z];have WL:Wl w9 [[64],[40],[105,102]] (Ib w9 (.cells #[.string ⟨#[64]⟩,.string ⟨#[40]⟩,.string ⟨#[105,102]⟩] 9)) w9.heap.size:=lR w9 [[64],[40],[105,102]] _;have bg:=jJ TI [[64],[40],[105,102]] (by decide) (h9.below WL.1) (n:=3) (cap:=3) rfl WL.2.2.1 WL.2.2.2 (by omega) (by unfold GY;omega);go_wp2_with fail;refine bg.mono ?_;rintro e af ⟨rfl,bh⟩;have ba:=WL.1.trans (bh.mono WL.1.size);have a5:=dX.ofBelow (rb:=rb) ba;have I:=h9.below ba;clear WL bg bh ba h9;have J:=a5.blk Z9 (by have:=K9.size;omega);have D:=K9.trans a5;have f:=a5.blk a1 (by omega);clear K9 Z9 a1;rw[V];clear a6;obtain⟨q0,q1,q2,q3,qf⟩:=Blk.cells4 (o:=λ_=>0) (i:=0) ⟨f,rfl⟩;by_cases k1:x.k=1
 ·have HE:Qd (fv rec m o q) (.inr (x::r)) ⟨1,x.n,[],(x.a:Nat),.nil⟩ (.inr r):=qc (by simp only[fv,k1,if_true]);have b1:((x.k:Int)==1)=true:=by simp[k1]
  have aR:x.k≠0:=by omega
  clear k1 hn ad ac Z V;obtain⟨W,aY,l,aZ,aD,aC,ao,ah,aE,Y,-,d1,-,-,-,-,hf⟩:=I.ok;have E:=I.over (.inr aR) d1;have u:=dX.at (rb:=rb) af 1 (.int .i64 ((W:Int)+1));clear I;go_upto_region 10 with fail;generalize af.setCell ⟨rb,1,GA⟩ (.int .i64 ((W:Int)+1))=L at *;clear d1 hf Y;have B:=u.blk J (by have:=D.size;omega);have C:=D.trans u;have g:=u.blk f (by omega);clear D J f;clear q0 q1 q2 q3 qf;have KE:=C.set5 (b:=w.heap.size) (by omega) (.int .i64 1) (.int .i64 x.n) (stv []) (.slice GA 0 0) (.int .i64 x.a);have RE:=E.set5 (b:=w.heap.size) (by omega) (.int .i64 1) (.int .i64 x.n) (stv []) (.slice GA 0 0) (.int .i64 x.a);have U:=eT (.int .i64 1) (.int .i64 x.n) (stv []) (.slice GA 0 0) (.int .i64 x.a) B;obtain⟨z0,z1,z2,z3,z4,zf⟩:=dT B;obtain⟨u0,u1,u2,u3,u4,-⟩:=dT U;obtain⟨T,S,Q,P,O⟩:=Blk.cells4 (o:=λ_=>0) (i:=0) ⟨g,rfl⟩;have K:=HE;clear U C B E g;go_wp2;exact GG (v:=exV ⟨1,x.n,[],x.a,.nil⟩ GA 0) (by simp[results,IE,go_sem,u0,u1,u2,u3,u4,exV,Fs.len]) rfl ⟨_,_,_,_,rfl,Sl.nil _ _ _,RE,KE,K⟩
 have b1:((x.k:Int)==1)=false:=by simp;omega
 by_cases k2:x.k=2
 ·have HE:Qd (fv rec m o q) (.inr (x::r)) ⟨4,0,x.t,(x.a:Nat),.nil⟩ (.inr r):=qc (by simp only[fv,k1,k2,if_true,if_false];rw[if_neg (by decide)]);have b2:((x.k:Int)==2)=true:=by simp[k2]
  have aR:x.k≠0:=by omega
  clear k1 k2 hn ad ac Z V;obtain⟨W,aY,l,aZ,aD,aC,ao,ah,aE,Y,-,d1,-,-,-,-,hf⟩:=I.ok;have E:=I.over (.inr aR) d1;have u:=dX.at (rb:=rb) af 1 (.int .i64 ((W:Int)+1));clear I;go_upto_region 13 with fail;generalize af.setCell ⟨rb,1,GA⟩ (.int .i64 ((W:Int)+1))=L at *;clear d1 hf Y;have B:=u.blk J (by have:=D.size;omega);have C:=D.trans u;have g:=u.blk f (by omega);clear D J f;clear q0 q1 q2 q3 qf;have KE:=C.set5 (b:=w.heap.size) (by omega) (.int .i64 4) (.int .i64 0) (stv x.t) (.slice GA 0 0) (.int .i64 x.a);have RE:=E.set5 (b:=w.heap.size) (by omega) (.int .i64 4) (.int .i64 0) (stv x.t) (.slice GA 0 0) (.int .i64 x.a);have U:=eT (.int .i64 4) (.int .i64 0) (stv x.t) (.slice GA 0 0) (.int .i64 x.a) B;obtain⟨z0,z1,z2,z3,z4,zf⟩:=dT B;obtain⟨u0,u1,u2,u3,u4,-⟩:=dT U;obtain⟨T,S,Q,P,O⟩:=Blk.cells4 (o:=λ_=>0) (i:=0) ⟨g,rfl⟩;have K:=HE;clear U C B E g;go_wp2;exact GG (v:=exV ⟨4,0,x.t,x.a,.nil⟩ GA 0) (by simp[results,IE,go_sem,u0,u1,u2,u3,u4,exV,Fs.len]) rfl ⟨_,_,_,_,rfl,Sl.nil _ _ _,RE,KE,K⟩
 have b2:((x.k:Int)==2)=false:=by simp;omega
 by_cases t0:x.t=[102,97,108,115,101]
 ·obtain rfl:A3=0:=Z.symm.trans (jq (k:=0) rfl t0 (by omega));have HE:Qd (fv rec m o q) (.inr (x::r)) ⟨2,0,[],(x.a:Nat),.nil⟩ (.inr r):=qc (by simp only[fv,k1,k2,t0,if_true,if_false]);have ag:x.t≠[]:=by rw[t0];decide
  clear k1 k2 t0 hn ad ac Z V;obtain⟨W,aY,l,aZ,aD,aC,ao,ah,aE,Y,-,d1,-,-,-,-,hf⟩:=I.ok;have E:=I.over (.inl ag) d1;have u:=dX.at (rb:=rb) af 1 (.int .i64 ((W:Int)+1));clear I;go_upto_region 16 with fail;generalize af.setCell ⟨rb,1,GA⟩ (.int .i64 ((W:Int)+1))=L at *;clear d1 hf Y;have B:=u.blk J (by have:=D.size;omega);have C:=D.trans u;have g:=u.blk f (by omega);clear D J f;clear q0 q1 q2 q3 qf;have KE:=C.set5 (b:=w.heap.size) (by omega) (.int .i64 2) (.int .i64 0) (stv []) (.slice GA 0 0) (.int .i64 x.a);have RE:=E.set5 (b:=w.heap.size) (by omega) (.int .i64 2) (.int .i64 0) (stv []) (.slice GA 0 0) (.int .i64 x.a);have U:=eT (.int .i64 2) (.int .i64 0) (stv []) (.slice GA 0 0) (.int .i64 x.a) B;obtain⟨z0,z1,z2,z3,z4,zf⟩:=dT B;obtain⟨u0,u1,u2,u3,u4,-⟩:=dT U;obtain⟨T,S,Q,P,O⟩:=Blk.cells4 (o:=λ_=>0) (i:=0) ⟨g,rfl⟩;have K:=HE;clear U C B E g;go_wp2;exact GG (v:=exV ⟨2,0,[],x.a,.nil⟩ GA 0) (by simp[results,IE,go_sem,u0,u1,u2,u3,u4,exV,Fs.len]) rfl ⟨_,_,_,_,rfl,Sl.nil _ _ _,RE,KE,K⟩
 by_cases t1:x.t=[116,114,117,101]
 ·obtain rfl:A3=1:=Z.symm.trans (jq (k:=1) rfl t1 (λj t hj ht=>by (obtain rfl:j=0:=by omega);simp at ht;subst ht;decide));have HE:Qd (fv rec m o q) (.inr (x::r)) ⟨2,1,[],(x.a:Nat),.nil⟩ (.inr r):=qc (by simp only[fv,k1,k2,t0,t1,if_true,if_false];rfl);have ag:x.t≠[]:=by rw[t1];decide
  clear k1 k2 t0 t1 hn ad ac Z V;obtain⟨W,aY,l,aZ,aD,aC,ao,ah,aE,Y,-,d1,-,-,-,-,hf⟩:=I.ok;have E:=I.over (.inl ag) d1;have u:=dX.at (rb:=rb) af 1 (.int .i64 ((W:Int)+1));clear I;go_upto_region 16 with fail;generalize af.setCell ⟨rb,1,GA⟩ (.int .i64 ((W:Int)+1))=L at *;clear d1 hf Y;have B:=u.blk J (by have:=D.size;omega);have C:=D.trans u;have g:=u.blk f (by omega);clear D J f;clear q0 q1 q2 q3 qf;have KE:=C.set5 (b:=w.heap.size) (by omega) (.int .i64 2) (.int .i64 1) (stv []) (.slice GA 0 0) (.int .i64 x.a);have RE:=E.set5 (b:=w.heap.size) (by omega) (.int .i64 2) (.int .i64 1) (stv []) (.slice GA 0 0) (.int .i64 x.a);have U:=eT (.int .i64 2) (.int .i64 1) (stv []) (.slice GA 0 0) (.int .i64 x.a) B;obtain⟨z0,z1,z2,z3,z4,zf⟩:=dT B;obtain⟨u0,u1,u2,u3,u4,-⟩:=dT U;obtain⟨T,S,Q,P,O⟩:=Blk.cells4 (o:=λ_=>0) (i:=0) ⟨g,rfl⟩;have K:=HE;clear U C B E g;go_wp2;exact GG (v:=exV ⟨2,1,[],x.a,.nil⟩ GA 0) (by simp[results,IE,go_sem,u0,u1,u2,u3,u4,exV,Fs.len]) rfl ⟨_,_,_,_,rfl,Sl.nil _ _ _,RE,KE,K⟩
 obtain rfl:A3=-1:=Z.symm.trans (mq (by simp only[Iq,Io,or_false];rintro s (rfl|rfl);exact t0;exact t1));by_cases s0:x.t=[64]
 ·obtain rfl:A4=0:=V.symm.trans (jq (k:=0) rfl s0 (by omega));have C1:=(Ctx.start hn).eat (H:=λt=>(hH 1 t).bind λy t1=>.ok ⟨3,y.n,[],(x.a:Nat),.nil⟩ t1) (by simp only[fv,k1,k2,t0,t1,s0,if_true,if_false];rfl);have ag:x.t≠[]:=by rw[s0];decide
  clear k1 k2 t0 t1 s0 hn ad ac Z V;obtain⟨W,aY,l,aZ,aD,aC,ao,ah,aE,Y,-,d1,-,-,-,-,hf⟩:=I.ok;have E:=I.over (.inl ag) d1;have u:=dX.at (rb:=rb) af 1 (.int .i64 ((W:Int)+1));clear I;go_upto_region 19 with fail;generalize af.setCell ⟨rb,1,GA⟩ (.int .i64 ((W:Int)+1))=L at *;clear d1 hf Y;have B:=u.blk J (by have:=D.size;omega);have C:=D.trans u;have g:=u.blk f (by omega);clear D J f;clear q0 q1 q2 q3 qf;cases r with
  | nil=>exact absurd rfl (E.nn [] rfl)
  | cons y r2 =>
  have h3:=E;clear E;obtain⟨aP,aT,bw,bC,bH,bF,bs,bn,bN,a6,d0,d1,-,-,-,⟨t0,t1,t2,t3⟩,hf⟩:=h3.ok;have bz:GK L.heap.size L (L.alloc (.cells #[.int .i64 0,.int .i64 0,.string ⟨#[]⟩,.int .i64 0] 67)):=(GN _ L).alloc (GC _) _;have aq:rb<L.heap.size:=h3.lt;have an:aT<L.heap.size:=by omega
  have a8:=(bz.cell (p:=⟨rb,0,GA⟩) aq).trans d0;have a7:=(bz.cell (p:=⟨rb,1,GA⟩) aq).trans d1;have u0:=(bz.cell (p:=⟨aT,aP*4,GA⟩) an).trans t0;have u1:=(bz.cell (p:=⟨aT,aP*4+1,GA⟩) an).trans t1;have u2:=(bz.cell (p:=⟨aT,aP*4+2,GA⟩) an).trans t2;have u3:=(bz.cell (p:=⟨aT,aP*4+3,GA⟩) an).trans t3;have bp:(aP:Int)<(bC:Int):=by omega
  have aA:=jx L (.cells #[.int .i64 (y.k:Nat),.int .i64 y.n,stv y.t,.int .i64 (y.a:Nat)] 67);clear bz;go_upto_region 19 with fail;go_cut [8] (λv wx=>∃bu,v=.pointer (GB ⟨bu,0,GA⟩)/\L.heap.size<=bu/\wx.heap[bu]?=GB (.cells #[.int .i64 (y.k:Nat),.int .i64 y.n,stv y.t,.int .i64 (y.a:Nat)] 67 (0,0))/\GK L.heap.size L wx)
  case first =>
   go_region
   all_goals
    go_wp2;go_meet;exact⟨_,rfl,GC _,aA.1,aA.2⟩
  case rest =>
  obtain⟨bu,rfl,bK,TU,BU⟩:=hcut;clear t0 t1 t2 t3 d0 d1 hf a6 a8 a7 u0 u1 u2 u3 aA;have az:=dX.ofBelow (rb:=rb) BU;have au:=h3.below BU;have bV:rb<bu:=by have:=h3.lt;omega
  clear h3 BU;have av:=az.blk B (by have:=C.size;omega);have al:=C.trans az;have M:=az.blk g (by omega);clear C B g;obtain⟨T,S,Q,P,O⟩:=Blk.cells4 (o:=λ_=>0) (i:=0) ⟨M,rfl⟩;obtain⟨aL,aK,aJ,aI,aH⟩:=Blk.cells4 (o:=λ_=>0) (i:=0) ⟨TU,rfl⟩;by_cases ky:y.k=1
  ·have HE:=C1.step (Da ky);have HE:=HE.fin;have bB:((y.k:Int)==1)=true:=by simp[ky]
   have bA:((y.k:Int) != 1)=false:=by simp[ky]
   have aR:y.k≠0:=by omega
   clear ky C1;obtain⟨bc,bY,bx,bZ,bI,bG,bv,bo,bO,bd,-,d1,-,-,-,-,hf⟩:=au.ok;have ar:=au.over (.inr aR) d1;have ab:=dX.at (rb:=rb) wc 1 (.int .i64 ((bc:Int)+1));clear au;go_upto_region 24 with fail;generalize wc.setCell ⟨rb,1,GA⟩ (.int .i64 ((bc:Int)+1))=bb at *;clear d1 hf bd;have aj:=ab.blk av (by have:=al.size;omega);have ay:=al.trans ab;have ap:=ab.blk M (by omega);have aW:=ab.blk TU (by omega);clear al av M TU;clear T S Q P O aL aK aJ aI aH;have KE:=ay.set5 (b:=w.heap.size) (by omega) (.int .i64 3) (.int .i64 y.n) (stv []) (.slice GA 0 0) (.int .i64 x.a);have RE:=ar.set5 (b:=w.heap.size) (by omega) (.int .i64 3) (.int .i64 y.n) (stv []) (.slice GA 0 0) (.int .i64 x.a);have U:=eT (.int .i64 3) (.int .i64 y.n) (stv []) (.slice GA 0 0) (.int .i64 x.a) aj;obtain⟨z0,z1,z2,z3,z4,zf⟩:=dT aj;obtain⟨u0,u1,u2,u3,u4,-⟩:=dT U;obtain⟨T,S,Q,P,O⟩:=Blk.cells4 (o:=λ_=>0) (i:=0) ⟨ap,rfl⟩;obtain⟨aL,aK,aJ,aI,aH⟩:=Blk.cells4 (o:=λ_=>0) (i:=0) ⟨aW,rfl⟩;have K:=HE;clear U ay aj ar ap aW;go_wp2;exact GG (v:=exV ⟨3,y.n,[],x.a,.nil⟩ GA 0) (by simp[results,IE,go_sem,u0,u1,u2,u3,u4,exV,Fs.len]) rfl ⟨_,_,_,_,rfl,Sl.nil _ _ _,RE,KE,K⟩
  ·have HE:=C1.2 fN (.inl (120,y.a)) (pB fN (by simp[hH,ky,Rs.bind]));have bB:((y.k:Int)==1)=false:=by simp;omega
   have bA:((y.k:Int) != 1)=true:=by simp;omega
   clear ky C1 T S Q P O aL aK aJ aI aH;have aU:GR GD 29 #[.pointer (GB ⟨rb,0,GA⟩),.int .i64 120] wc λr' w'=>r'=.returned (.tuple #[])/\QS w' rb all o q (.inl (120,y.a))/\dX rb wc w':=jN 120 (by decide) au;obtain⟨T,S,Q,P,O⟩:=Blk.cells4 (o:=λ_=>0) (i:=0) ⟨M,rfl⟩;obtain⟨aL,aK,aJ,aI,aH⟩:=Blk.cells4 (o:=λ_=>0) (i:=0) ⟨TU,rfl⟩;go_wp2_with fail;refine aU.mono ?_;rintro e bb ⟨rfl,ar,ab⟩;clear aU au M TU T S Q P O aL aK aJ aI aH;have aj:=ab.blk av (by have:=al.size;omega);have ay:=al.trans ab;clear al av;have KE:=ay.set5 (b:=w.heap.size) (by omega) (.int .i64 0) (.int .i64 0) (stv []) (.slice GA 0 0) (.int .i64 0);have RE:=ar.set5 (b:=w.heap.size) (by omega) (.int .i64 0) (.int .i64 0) (stv []) (.slice GA 0 0) (.int .i64 0);have U:=eT (.int .i64 0) (.int .i64 0) (stv []) (.slice GA 0 0) (.int .i64 0) aj;obtain⟨z0,z1,z2,z3,z4,zf⟩:=dT aj;obtain⟨u0,u1,u2,u3,u4,-⟩:=dT U;have K:=HE;clear U ay aj ar;go_wp2;exact GG (v:=exV fN GA 0) (by simp[results,IE,go_sem,u0,u1,u2,u3,u4,exV,fN,Fs.len]) rfl ⟨_,_,_,_,rfl,Sl.nil _ _ _,RE,KE,K⟩
 by_cases s1:x.t=[40]
 ·obtain rfl:A4=1:=V.symm.trans (jq (k:=1) rfl s1 (λj t hj ht=>by (obtain rfl:j=0:=by omega);simp at ht;subst ht;decide));have C1:=(Ctx.start hn).congr (H:=(λts=>(ej [40] o ts).bind λ_ t1=>(rec 1 (o+1) q t1).bind λe t2=>(eD [41] t2).bind λ_ t4=>.ok e t4)) (λts hs=>by cases hs;simp only[fv,k1,k2,t0,t1,s0,s1,if_true,if_false,iK,jy,Rs.bind_assoc,Rs.ok_bind,JR];rfl);clear k1 k2 t0 t1 s0 s1 hn ad ac Z V;have aa:=kV TI [40] ⟨by decide,by decide⟩ I;go_wp2_with fail;refine aa.mono ?_;rintro e L ⟨c,aB,rfl,E,u,ak⟩;have a9:=C1.step ak;clear aa ak C1;have B:=u.blk J (by have:=D.size;omega);have C:=D.trans u;have g:=u.blk f (by omega);clear D J f;clear q0 q1 q2 q3 qf;have bf:=R _ rb all 1 (o+1) (q) aB TI (by omega) (by omega) E a9.nou;go_wp2_with fail;refine bf.mono ?_;rintro e aM ⟨d,N,G,bE,rfl,bi,au,az,bk⟩;have bm:=a9.step bk;clear bf bk a9;have a4:=bi.low (show (w.heap.size+1)<=_ from (by have:=GF B;omega));clear bi;have av:=az.blk B (by have:=C.size;omega);have al:=C.trans az;have M:=az.blk g (by omega);clear C B g;have be:=au.alloc (zEx d N G);have aX:=al.alloc (zEx d N G);have a0:=(GO aM (zEx d N G) _ (GF av)).trans av;have aG:=(GO aM (zEx d N G) _ (GF M)).trans M;have aV:(Ib aM (zEx d N G)).heap[aM.heap.size]?=GB (zEx d N G):=GH aM _;have am:=a4.allocN (zEx d N G);have bM:rb<aM.heap.size:=by have:=al.size;omega
  clear au al av M a4;rw[dU];have aU:=lh TI [41] ⟨by decide,by decide⟩ be;go_wp2_with fail;refine aU.mono ?_;rintro e bb ⟨bR,bD,rfl,ar,ab,bj⟩;have bl:=bm.step bj;clear aU bj bm;have aj:=ab.blk a0 (by have:=aX.size;omega);have ay:=aX.trans ab;have ap:=ab.blk aG (by omega);have aF:=ab.blk aV (by omega);have aw:=am.keepN ab (by omega);clear aX a0 aG aV am;have KE:=ay.set5 (b:=w.heap.size) (by omega) (.int .i64 d.k) (.int .i64 d.n) (stv d.nm) (.slice N d.kids.len G) (.int .i64 d.a);have RE:=ar.set5 (b:=w.heap.size) (by omega) (.int .i64 d.k) (.int .i64 d.n) (stv d.nm) (.slice N d.kids.len G) (.int .i64 d.a);have U:=eT (.int .i64 d.k) (.int .i64 d.n) (stv d.nm) (.slice N d.kids.len G) (.int .i64 d.a) aj;have SE:Sl _ (Nw w.heap.size) _ _:=(aw.set5 (b:=w.heap.size) (by omega) (.int .i64 d.k) (.int .i64 d.n) (stv d.nm) (.slice N d.kids.len G) (.int .i64 d.a)).low (by omega);obtain⟨z0,z1,z2,z3,z4,zf⟩:=dT aj;obtain⟨u0,u1,u2,u3,u4,-⟩:=dT U;obtain⟨aL,aK,aJ,aI,bQ,aH⟩:=dT aF;have K:=bl.fin;clear U bl ay aj ar ap aF aw;go_wp2;exact GG (v:=exV d N G) (by simp[results,IE,go_sem,u0,u1,u2,u3,u4,exV]) rfl ⟨_,_,_,_,rfl,SE,RE,KE,K⟩
 by_cases s2:x.t=[105,102]
 ·obtain rfl:A4=2:=V.symm.trans (jq (k:=2) rfl s2 (λj t hj ht=>by (obtain rfl|rfl:j=0\/j=1:=by omega)<;>simp at ht<;>subst ht<;>decide));have EQ:∀ ts,(.inr (x::r):Sq)=.inr ts->fv rec m o q ts=gM rec o q ts:=λts hs=>by
   cases hs;simp only[fv,k1,k2,t0,t1,s0,s1,s2,if_true,if_false];rfl
  have HN:=hn.congr EQ;have HC:Hid (∀ X ai,Qd (gM rec o q) (.inr (x::r)) X ai->Qd (fv rec m o q) (.inr (x::r)) X ai):=λX ai q=>q.congr λts hs=>(EQ ts hs).symm;have CC:Hid (∀ wx,QS wx rb all o q (.inr (x::r))->GR GD 162 #[.pointer (GB ⟨rb,0,GA⟩),.int .i64 (x.a:Nat)] wx (gq rb all o q wx (.inr (x::r)) (gM rec o q))):=λwx hh=>Bv R TI s2 hh HN;clear EQ HN k1 k2 t0 t1 s0 s1 s2 hn ad ac Z V q0 q1 q2 q3 qf;obtain⟨T,S,Q,P,O⟩:=Blk.cells4 (o:=λ_=>0) (i:=0) ⟨f,rfl⟩;have aa:=CC.out _ I;go_wp2_with fail;refine aa.mono ?_;rintro e L ⟨c,F,l,aB,rfl,ax,E,u,ak⟩;have HX:=HC.out _ _ ak;clear aa ak I T S Q P O;have ae:=ax.low (show (w.heap.size+1)<=_ from (by have:=GF J;omega));clear ax;have B:=u.blk J (by have:=D.size;omega);have C:=D.trans u;have g:=u.blk f (by omega);clear D J f;have KE:=C.set5 (b:=w.heap.size) (by omega) (.int .i64 c.k) (.int .i64 c.n) (stv c.nm) (.slice F c.kids.len l) (.int .i64 c.a);have RE:=E.set5 (b:=w.heap.size) (by omega) (.int .i64 c.k) (.int .i64 c.n) (stv c.nm) (.slice F c.kids.len l) (.int .i64 c.a);have U:=eT (.int .i64 c.k) (.int .i64 c.n) (stv c.nm) (.slice F c.kids.len l) (.int .i64 c.a) B;have SE:Sl _ (Nw w.heap.size) _ _:=(ae.set5 (b:=w.heap.size) (by omega) (.int .i64 c.k) (.int .i64 c.n) (stv c.nm) (.slice F c.kids.len l) (.int .i64 c.a)).low (by omega);obtain⟨z0,z1,z2,z3,z4,zf⟩:=dT B;obtain⟨u0,u1,u2,u3,u4,-⟩:=dT U;have K:=HX;clear U C B E g ae;rw[dU];go_wp2;exact GG (v:=exV c F l) (by simp[results,IE,go_sem,u0,u1,u2,u3,u4,exV]) rfl ⟨_,_,_,_,rfl,SE,RE,KE,K⟩
 obtain rfl:A4=-1:=V.symm.trans (mq (by simp only[Iq,Io,or_false];rintro s (rfl|rfl|rfl);exact s0;exact s1;exact s2));cases hc:pg x.t with
 | some z =>
  obtain⟨i,hi,aS,aQ,aN,ag⟩:=yc (r:=r) hc;obtain⟨z0,zn,zm⟩:=z;simp only at aQ aN;subst aQ;obtain rfl:A1=(i:Nat):=ad.symm.trans hi;have bq:(0:Int)<=(i:Int):=by omega
  have EQ:∀ ts,(.inr (x::r):Sq)=.inr ts->fv rec m o q ts=ly rec zm i x.a o q ts:=λts hs=>by
   cases hs;simp only[fv,k1,k2,t0,t1,s0,s1,s2,hc,if_false,ly,List.tail_cons];rfl
  have HN:=hn.congr EQ;have HC:Hid (∀ X ai,Qd (ly rec zm i x.a o q) (.inr (x::r)) X ai->Qd (fv rec m o q) (.inr (x::r)) X ai):=λX ai q=>q.congr λts hs=>(EQ ts hs).symm;have CC:Hid (∀ wx,QS wx rb all o q (.inr (x::r))->GR GD 163 #[.pointer (GB ⟨rb,0,GA⟩),.int .i64 i,.int .i64 (x.a:Nat)] wx (gq rb all o q wx (.inr (x::r)) (ly rec zm i x.a o q))):=λwx hh=>by
   by_cases h3:i<3
   ·rw[if_pos h3] at aN;subst aN;exact DF R TI ag h3 hh HN
   ·rw[if_neg h3] at aN;subst aN;exact Dl R TI ag ⟨by omega,aS⟩ hh HN
  clear EQ HN k1 k2 t0 t1 s0 s1 s2 hn ad ac Z V hc hi aN q0 q1 q2 q3 qf ag;obtain⟨T,S,Q,P,O⟩:=Blk.cells4 (o:=λ_=>0) (i:=0) ⟨f,rfl⟩;have aa:=CC.out _ I;go_wp2_with fail;refine aa.mono ?_;rintro e L ⟨c,F,l,aB,rfl,ax,E,u,ak⟩;have HX:=HC.out _ _ ak;clear aa ak I T S Q P O;have ae:=ax.low (show (w.heap.size+1)<=_ from (by have:=GF J;omega));clear ax;have B:=u.blk J (by have:=D.size;omega);have C:=D.trans u;have g:=u.blk f (by omega);clear D J f;have KE:=C.set5 (b:=w.heap.size) (by omega) (.int .i64 c.k) (.int .i64 c.n) (stv c.nm) (.slice F c.kids.len l) (.int .i64 c.a);have RE:=E.set5 (b:=w.heap.size) (by omega) (.int .i64 c.k) (.int .i64 c.n) (stv c.nm) (.slice F c.kids.len l) (.int .i64 c.a);have U:=eT (.int .i64 c.k) (.int .i64 c.n) (stv c.nm) (.slice F c.kids.len l) (.int .i64 c.a) B;have SE:Sl _ (Nw w.heap.size) _ _:=(ae.set5 (b:=w.heap.size) (by omega) (.int .i64 c.k) (.int .i64 c.n) (stv c.nm) (.slice F c.kids.len l) (.int .i64 c.a)).low (by omega);obtain⟨z0,z1,z2,z3,z4,zf⟩:=dT B;obtain⟨u0,u1,u2,u3,u4,-⟩:=dT U;have K:=HX;clear U C B E g ae;rw[dU];go_wp2;exact GG (v:=exV c F l) (by simp[results,IE,go_sem,u0,u1,u2,u3,u4,exV]) rfl ⟨_,_,_,_,rfl,SE,RE,KE,K⟩
 | none =>
 obtain rfl:A1=-1:=ad.symm.trans (yy hc);cases aO:mu x.t with
 | some z =>
  obtain⟨i,hi,aS,aQ,ag⟩:=uE (r:=r) aO;obtain⟨z0,zn⟩:=z;simp only at aQ;subst aQ;obtain rfl:A2=(i:Nat):=ac.symm.trans hi;have bq:(0:Int)<=(i:Int):=by omega
  have EQ:∀ ts,(.inr (x::r):Sq)=.inr ts->fv rec m o q ts=gu rec m x.t (i+1) o q ts:=λts hs=>by
   cases hs;simp only[fv,k1,k2,t0,t1,s0,s1,s2,hc,aO,if_false]
  have HN:=hn.congr EQ;have HC:Hid (∀ X ai,Qd (gu rec m x.t (i+1) o q) (.inr (x::r)) X ai->Qd (fv rec m o q) (.inr (x::r)) X ai):=λX ai q=>q.congr λts hs=>(EQ ts hs).symm;have CC:Hid (∀ wx,QS wx rb all o q (.inr (x::r))->GR GD 164 #[.pointer (GB ⟨rb,0,GA⟩),.int .i64 i,.int .i64 (x.a:Nat)] wx (gq rb all o q wx (.inr (x::r)) (gu rec m x.t (i+1) o q))):=λwx hh=>Dm R RS TI ag aS hh HN;clear EQ HN k1 k2 t0 t1 s0 s1 s2 hn ad ac Z V hc aO hi q0 q1 q2 q3 qf ag;obtain⟨T,S,Q,P,O⟩:=Blk.cells4 (o:=λ_=>0) (i:=0) ⟨f,rfl⟩;have aa:=CC.out _ I;go_wp2_with fail;refine aa.mono ?_;rintro e L ⟨c,F,l,aB,rfl,ax,E,u,ak⟩;have HX:=HC.out _ _ ak;clear aa ak I T S Q P O;have ae:=ax.low (show (w.heap.size+1)<=_ from (by have:=GF J;omega));clear ax;have B:=u.blk J (by have:=D.size;omega);have C:=D.trans u;have g:=u.blk f (by omega);clear D J f;have KE:=C.set5 (b:=w.heap.size) (by omega) (.int .i64 c.k) (.int .i64 c.n) (stv c.nm) (.slice F c.kids.len l) (.int .i64 c.a);have RE:=E.set5 (b:=w.heap.size) (by omega) (.int .i64 c.k) (.int .i64 c.n) (stv c.nm) (.slice F c.kids.len l) (.int .i64 c.a);have U:=eT (.int .i64 c.k) (.int .i64 c.n) (stv c.nm) (.slice F c.kids.len l) (.int .i64 c.a) B;have SE:Sl _ (Nw w.heap.size) _ _:=(ae.set5 (b:=w.heap.size) (by omega) (.int .i64 c.k) (.int .i64 c.n) (stv c.nm) (.slice F c.kids.len l) (.int .i64 c.a)).low (by omega);obtain⟨z0,z1,z2,z3,z4,zf⟩:=dT B;obtain⟨u0,u1,u2,u3,u4,-⟩:=dT U;have K:=HX;clear U C B E g ae;rw[dU];go_wp2;exact GG (v:=exV c F l) (by simp[results,IE,go_sem,u0,u1,u2,u3,u4,exV]) rfl ⟨_,_,_,_,rfl,SE,RE,KE,K⟩
 | none =>
 obtain rfl:A2=-1:=ac.symm.trans (uG aO);have HE:Qd (fv rec m o q) (.inr (x::r)) fN (.inl (120,x.a)):=pB fN (by simp only[fv,k1,k2,t0,t1,s0,s1,s2,hc,aO,if_false]);clear k1 k2 t0 t1 s0 s1 s2 hn ad ac Z V hc aO q0 q1 q2 q3 qf;have aa:GR GD 29 #[.pointer (GB ⟨rb,0,GA⟩),.int .i64 120] af λr' w'=>r'=.returned (.tuple #[])/\QS w' rb all o q (.inl (120,x.a))/\dX rb af w':=jN 120 (by decide) I;obtain⟨T,S,Q,P,O⟩:=Blk.cells4 (o:=λ_=>0) (i:=0) ⟨f,rfl⟩;go_wp2_with fail;refine aa.mono ?_;rintro e L ⟨rfl,E,u⟩;clear aa I f T S Q P O;have B:=u.blk J (by have:=D.size;omega);have C:=D.trans u;clear D J;have KE:=C.set5 (b:=w.heap.size) (by omega) (.int .i64 0) (.int .i64 0) (stv []) (.slice GA 0 0) (.int .i64 0);have RE:=E.set5 (b:=w.heap.size) (by omega) (.int .i64 0) (.int .i64 0) (stv []) (.slice GA 0 0) (.int .i64 0);have U:=eT (.int .i64 0) (.int .i64 0) (stv []) (.slice GA 0 0) (.int .i64 0) B;obtain⟨z0,z1,z2,z3,z4,zf⟩:=dT B;obtain⟨u0,u1,u2,u3,u4,-⟩:=dT U;have K:=HE;clear U C B E;go_wp2;exact GG (v:=exV fN GA 0) (by simp[results,IE,go_sem,u0,u1,u2,u3,u4,exV,fN,Fs.len]) rfl ⟨_,_,_,_,rfl,Sl.nil _ _ _,RE,KE,K⟩
theorem zi {n row o q:Nat}(a:row=1\/row=2\/row=4\/row=5\/row=6):fL (n+1) row o q=λts=>(fL n (row+1) o q ts).bind λl t=>fR (fL n) n row o q l t:=by
 funext ts;rcases a with rfl|rfl|rfl|rfl|rfl<;>rfl
theorem wU:∀ n,n<=1000000->mI (fL n)/\EG (fL n)
 | 0,_=>⟨λw rb all row o q st c h1 f h b=>by
   match st,h,b with
   | .inl (er,a),h,b=>exact vS _ h
   | .inr ts,h,b=>exact absurd rfl (b ts rfl),λw rb all o q x r c h b=>absurd rfl (b _ rfl)⟩
 | n+1,j=>by
  obtain⟨R,i⟩:=wU n (by omega);refine⟨λw rb all row o q st c h1 f h b=>?_,λw rb all o q x r c h b=>?_⟩
  ·match st,h,b with
   | .inl (er,a),h,b=>exact vS _ h
   | .inr [],h,b=>exact absurd rfl (h.nn [] rfl)
   | .inr (x::r),h,b =>
    by_cases g:row=3
    ·subst g;exact FM R c h b
    ·by_cases d:row=7
     ·subst d;exact Gw R i c h b
     ·have e:row=1\/row=2\/row=4\/row=5\/row=6:=by omega
      rw[zi e] at b ⊢;exact FW R e c h b
  ·exact Ea R (F4 R (by omega)) c h b
def zu (x:Tk):Prop:=(x.k=0/\x.t=[])\/(x.k=1/\x.t=[])\/(x.k=2/\eE x.t=true)\/(x.k=3/\gS x.t=true)\/(x.k=4/\x.t≠[])
theorem AU {k:Nat}{t:List UInt8}{a:Nat}{x:Tk}(h:jO k t a=.inr x)(c:t≠[]):zu x:=by
 unfold jO at h;split at h
 ·unfold jz at h;split at h
  ·rename_i b
   injection h with h
   subst h;exact .inr (.inr (.inr (.inl ⟨rfl,b⟩)))
  ·split at h
   ·rename_i d
    injection h with h
    subst h;exact .inr (.inr (.inl ⟨rfl,d⟩))
   ·cases h
 ·unfold kK at h;split at h
  ·split at h
   ·cases h
   ·injection h with h
    subst h;exact .inr (.inl ⟨rfl,rfl⟩)
  ·cases h
 ·unfold pL at h;split at h
  ·cases h
  ·injection h with h
   subst h;exact .inr (.inr (.inr (.inr ⟨rfl,c⟩)))
 ·cases h
theorem FN (k:Nat)(t:List UInt8)(a p:Nat)(l:List UInt8)(ts:List Tk)(h:eZ k t a p l=.inr ts)(e:k=0\/t≠[]):∀ x,x ∈ ts->zu x:=by
 induction l generalizing k t a p ts with
 | nil =>
  intro x b;unfold eZ at h;rcases fA h with ⟨_,h2⟩|⟨g,y,i,f,h2,rfl⟩
  ·unfold tD at h2;injection h2 with h2
   subst h2;simp at b;subst b;exact .inl ⟨rfl,rfl⟩
  ·unfold tD at h2;injection h2 with h2
   subst h2;simp at b;rcases b with rfl|rfl
   ·exact AU f (by rcases e with h|h;exact absurd h g;exact h)
   ·exact .inl ⟨rfl,rfl⟩
 | cons c r d =>
  unfold eZ at h;split at h
  ·exact d _ _ _ _ _ h (by rcases e with h|h;exact .inl h;exact .inr (by simp))
  ·rcases fA h with ⟨_,h2⟩|⟨g,y,i,f,h2,rfl⟩
   ·exact d _ _ _ _ _ h2 (.inr (by simp))
   ·intro x b;rcases List.mem_cons.1 b with rfl|b
    ·exact AU f (by rcases e with h|h;exact absurd h g;exact h)
    ·exact d _ _ _ _ _ h2 (.inr (by simp)) x b
theorem EM {l:List UInt8}{ts:List Tk}(h:iy l=.inr ts):∀ x,x ∈ ts->zu x:=FN _ _ _ _ _ _ (lY h).2.1 (.inl rfl)
theorem zu.is {x:Tk}(h:zu x){s:List UInt8}(b:s≠[])(c:eE s=false):((x.k==3||x.k==4)&&x.t==s)=(x.t==s):=by
 by_cases e:x.t=s
 ·have h2:x.k=3\/x.k=4:=by
   rcases h with ⟨_,h⟩|⟨_,h⟩|⟨_,h⟩|⟨h,_⟩|⟨h,_⟩
   ·rw[h] at e;exact absurd e.symm b
   ·rw[h] at e;exact absurd e.symm b
   ·rw[e,c] at h;cases h
   ·exact .inl h
   ·exact .inr h
  rcases h2 with h2|h2<;>simp[h2,e]
 ·simp[e]
theorem AV (s:ByteArray)(q:Nat):(s.extract 0 q).data.toList=s.data.toList.take q:=by
 rw[lT];simp
def Pce (k:Nat)(u:List UInt8):Prop:=k≠0/\∃c r,u=c::r/\cls c.toNat=k/\∀ j (h:j<r.length),tks k (c::r.take j) (r[j]).toNat=true
theorem xe {r:Nat}:cls r=0 ↔ blk r=true:=by
 unfold cls;constructor
 ·intro h;by_cases a:blk r=true
  ·exact a
  ·rw[if_neg a] at h
   repeat' split at h
   all_goals omega
 ·intro h;rw[if_pos h]
theorem Pce.one (c:UInt8)(h:cls c.toNat≠0):Pce (cls c.toNat) [c]:=⟨h,c,[],rfl,rfl,λj h=>by simp at h⟩
theorem Pce.more {k:Nat}{u:List UInt8}(h:Pce k u)(c:UInt8)(a:tks k u c.toNat=true):Pce k (u++[c]):=by
 obtain⟨f,d,r,rfl,h1,h2⟩:=h;refine⟨f,d,r++[c],rfl,h1,λj b=>?_⟩;by_cases e:j<r.length
 ·rw[List.getElem_append_left e,List.take_append_of_le_length (by omega)];exact h2 j e
 ·have g:j=r.length:=by simp at b;omega
  subst g;rw[List.getElem_append_right (by omega)];simp only[JR,List.getElem_singleton];rw[List.take_append_of_le_length (by omega),JK];exact a
theorem Dt (l:List UInt8):(⟨l.toArray⟩:ByteArray).size=l.length:=by show l.toArray.size=_;simp
theorem Pce.reads {k:Nat}{u:List UInt8}(h:Pce k u)(q:Nat)(m:List UInt8)(b:∀ c r,m=c::r->tks k u c.toNat=false):eZ 0 [] q q (u++m)=ge k u q (eZ 0 [] (q+u.length) (q+u.length) m):=by
 obtain⟨g,d,r,rfl,h1,h2⟩:=h;have f:blk d.toNat=false:=by
  rw[<-IJ,<-xe,h1];exact g
 rw[IP,gj (k:=0) (by exact f),h1];show eZ k [d] q (q+1) (r++m)=_;rw[AT k [d] q (q+1) r m (λj h=>h2 j h) (λc' a e=>b c' a e)];have i:q+1+r.length=q+(d::r).length:=by simp;omega
 rw[i];rfl
theorem qi {k:Nat}(h:k=1\/k=2)(t a:List UInt8)(c:Nat):tks k t c=tks k a c:=by
 rcases h with rfl|rfl<;>rfl
theorem wC (t:List UInt8)(r:Nat):tks 3 t r=(r==61&&(t==[33]||t==[60])):=rfl
theorem xI (l:List UInt8)(k a e:Nat)(c:k=1\/k=2)(m:a<e)(h1:e<=l.length)(g:cls (l[a]'(by omega)).toNat=k)(b:∀ j (h:j<l.length),a<=j->j<e->tks k [] (l[j]).toNat=true) :
  Pce k ((l.drop a).take (e-a)):=by
 have i:e-a=(e-(a+1))+1:=by omega
 refine⟨by omega,l[a]'(by omega),(l.drop (a+1)).take (e-(a+1)),?_,g,λj f=>?_⟩
 ·rw[mx l a (by omega),i,List.take_succ_cons]
 ·rw[qi c _ []];have d:j<e-(a+1):=by simp at f;omega
  rw[List.getElem_take,List.getElem_drop];exact b _ _ (by omega) (by omega)
theorem vE (l:List UInt8)(a e:Nat)(b:a<e)(h1:e<=l.length):((l.drop a).take (e-a)).length=e-a:=by
 simp;omega
theorem py (l:List UInt8)(k a e:Nat)(m:k=1\/k=2)(n:a<e)(h1:e<=l.length)(p:cls (l[a]'(by omega)).toNat=k)(g:∀ j (h:j<l.length),a<=j->j<e->tks k [] (l[j]).toNat=true)
  (f:∀ h:e<l.length,tks k [] (l[e]).toNat=false):eZ 0 [] a a (l.drop a)=ge k ((l.drop a).take (e-a)) a (eZ 0 [] e e (l.drop e)):=by
 have q:=xI l k a e m n h1 p g;have o:l.drop a=(l.drop a).take (e-a)++l.drop e:=by
  have h2:=(JA (e-a) (l.drop a)).symm;rw[List.drop_drop] at h2;have t:a+(e-a)=e:=by omega
  rw[t] at h2;exact h2
 have i:=q.reads a (l.drop e) (λc r d=>by
  have b:e<l.length:=by
   by_cases b:e<l.length
   ·exact b
   ·rw[List.drop_eq_nil_of_le (by omega)] at d;cases d
  rw[mx l e b] at d;injection d with h2 u
  rw[<-h2,qi m _ []];exact f b)
 rw[<-o] at i;rw[i,vE l a e n h1];have s:a+(e-a)=e:=by omega
 rw[s]
def Gj (a:Nat)(c:UInt8):Nat:=a*10+(c.toNat-48)
def ib (a:Nat)(l:List UInt8):Nat:=l.foldl Gj a
theorem iS (a:Nat)(c:UInt8)(r:List UInt8):ib a (c::r)=ib (a*10+(c.toNat-48)) r:=by
 unfold ib;rw[List.foldl_cons];rfl
theorem iU (a:Nat):ib a []=a:=by
 unfold ib;rw[List.foldl_nil]
def uP (l:List UInt8):Prop:=∀ c,c ∈ l->48<=c.toNat/\c.toNat<=57
theorem CK (a:Nat)(l:List UInt8):a*10 ^ l.length<=ib a l:=by
 induction l generalizing a with
 | nil =>
  rw[IF,Nat.pow_zero,Nat.mul_one,iU];exact GC _
 | cons c r b =>
  rw[iS,G5];refine Hn ?_ (b _);rw[Nat.pow_succ,Nat.mul_comm (10 ^ r.length) 10,<-Nat.mul_assoc];exact Nat.mul_le_mul_right _ (by omega)
theorem qt (a:Nat)(l:List UInt8):a<=ib a l:=by
 induction l generalizing a with
 | nil =>
  rw[iU];exact GC _
 | cons c r b =>
  rw[iS];exact Hn (by omega) (b _)
theorem nl (a:Nat)(l m:List UInt8):ib a (l++m)=ib (ib a l) m:=by
 unfold ib;rw[List.foldl_append]
theorem yJ (a:Nat)(l:List UInt8)(b:uP l)(h:ib a l<18446744073709551616):Je a l=.ok (ib a l):=by
 induction l generalizing a with
 | nil =>
  rw[iU];rfl
 | cons c r e =>
  have g:=b c (by simp);rw[iS] at h ⊢;have i:=qt (a*10+(c.toNat-48)) r;simp only[Je];rw[if_pos g,if_neg (by omega),if_neg (by omega)];exact e _ (λd f=>b d (by simp[f])) h
theorem xA (a:Nat)(l:List UInt8)(b:uP l)(u:Nat)(h:Je a l=.ok u):u=ib a l:=by
 induction l generalizing a with
 | nil =>
  simp only[Je] at h;injection h with h
  rw[iU];exact h.symm
 | cons c r e =>
  have g:=b c (by simp);rw[iS];simp only[Je] at h;rw[if_pos g] at h;split at h
  ·cases h
  ·split at h
   ·cases h
   ·exact e _ (λd f=>b d (by simp[f])) h
theorem mQ {l:List UInt8}(e:uP l)(g:l≠[]):(ib 0 l<9223372036854775808->JG l=.ok (ib 0 l:Nat))/\(9223372036854775808<=ib 0 l->∀ v,JG l≠.ok v):=by
 cases l with
 | nil=>exact absurd rfl g
 | cons c r =>
  have j:=e c (by simp);have d:¬(c.toNat=43\/c.toNat=45):=by omega
  have f:Lib.parseMag (c::r)=Je 0 (c::r):=by
   unfold Lib.parseMag;rw[if_neg (by simp)]
  constructor
  ·intro h;have b:=yJ 0 (c::r) e (by omega);unfold JG;simp only;rw[if_neg d,f,b];simp only;rw[if_neg (by omega),if_neg (by omega),if_neg (by omega)]
  ·intro h v a;unfold JG at a;simp only at a;rw[if_neg d,f] at a;cases b:Je 0 (c::r) with
   | ok u =>
    rw[b] at a;simp only at a;have i:=xA 0 (c::r) e u b;rw[if_pos (by omega)] at a;cases a
   | _=>rw[b] at a;cases a
theorem vm {l:List UInt8}(h:∀ v,JG l≠.ok v)(a:Nat):kK l a=.inl 111:=by
 unfold kK;split
 ·rename_i v b
  exact absurd b (h v)
 ·rfl
theorem qE {l:List UInt8}(h1:l.head?=GB 48)(h2:1<l.length)(a:Nat):kK l a=.inl 111:=by
 unfold kK;have b:l≠[48]:=λe=>by rw[e] at h2;simp at h2
 split
 ·rw[if_pos ⟨h1,b⟩]
 ·rfl
theorem Af {l:List UInt8}(e:uP l)(d:l≠[])(h1:l.head?≠GB 48\/l.length<=1)(h2:ib 0 l<9223372036854775808)(a:Nat):kK l a=.inr ⟨1,(ib 0 l:Nat),[],a⟩:=by
 unfold kK;rw[(mQ e d).1 h2];simp only;rw[if_neg];rintro ⟨b,f⟩;rcases h1 with h1|h1
 ·exact h1 b
 ·apply f;cases l with
  | nil=>exact absurd rfl d
  | cons c r =>
   simp at h1 b;rw[h1,b]
theorem yo {l:List UInt8}(b:uP l)(h:19<l.length)(a:Nat):kK l a=.inl 111:=by
 cases l with
 | nil=>simp at h
 | cons c r =>
  by_cases d:c=48
  ·exact qE (by rw[d];rfl) (by omega) a
  ·refine vm ((mQ b (by simp)).2 ?_) a;have h1:=b c (by simp);have h2:1<=c.toNat-48:=by
    by_cases e:c.toNat=48
    ·exact absurd (I3 e) d
    ·omega
   have i:=CK (0*10+(c.toNat-48)) r;rw[iS];have g:10 ^ 19<=10 ^ r.length:=Nat.pow_le_pow_right (by omega) (by simp at h;omega);have h5:1*10 ^ r.length<=(0*10+(c.toNat-48))*10 ^ r.length:=Nat.mul_le_mul_right _ (by omega);have f:(10:Nat) ^ 19=10000000000000000000:=by decide
   omega
def pY (l:List UInt8)(k b e:Nat):Prop:=b<e/\e<=l.length/\(∀ j (h:j<l.length),b<=j->j<e->tks k [] (l[j]).toNat=true)/\(∀ h:e<l.length,tks k [] (l[e]).toNat=false)
theorem Fg (s:ByteArray)(at0:Nat)(w:GE)(hat:at0<s.size)(hs:s.size<=2000)(hd:dig (s[at0]).toNat=true) :
  GR GD 96 #[.string s,.int .i64 (at0:Nat)] w λe w'=>∃e0:Nat,e=.returned (.int .i64 (e0:Nat))/\pY s.data.toList 2 at0 e0/\w'=w:=by
 have HL:Hid (s.data.toList.length=s.size):=fh s;have hb0:(s[at0]'hat).toNat<256:=Ix _;have hatI:(at0:Int)<(s.size:Int):=by omega
 have HD:=GL hd;go_enter Tryz.func96,Tryz.ntmps96;go_wp2_with (go_at_call 95;refine(jg _ _ hb0).mono ?_;rw[hd];rintro e w1 ⟨rfl,rfl⟩);clear hd;go_loopw [1] (λv wr=>∃k:Nat,v=.int .i64 (k:Nat)/\at0<=k/\k<=s.size/\(∀ j (h:j<s.data.toList.length),at0<=j->j<k->dig (s.data.toList[j]).toNat=true)/\wr=w1) (λv _=>s.size-(Hh v).toNat)
 case atStart=>exact⟨at0,by go_num,by omega,by omega,λj _ h1 h2=>by omega,rfl⟩
 case round =>
  obtain⟨k,rfl,h1,h2,hin,rfl⟩:=hrel;by_cases hlt:k<s.size
  ·have hkl:k<s.data.toList.length:=by have:=HL.out;omega
   have hkI:(k:Int)<(s.size:Int):=by omega
   have hbk:(s[k]'hlt).toNat<256:=Ix _;have hge:=eX s k hlt hkl;cases h3:dig (s[k]'hlt).toNat
   ·have fin:pY s.data.toList 2 at0 k:=by
     refine⟨?_,by omega,hin,λh=>?_⟩
     ·by_cases e:at0=k
      ·subst e;rw[HD.out] at h3;cases h3
      ·omega
     ·show dig _=false;rw[hge];exact h3
    have HF:=GL fin;clear fin hin hge;go_wp2_with (go_at_call 95;refine(jg _ _ hbk).mono ?_;rw[h3];rintro e w1 ⟨rfl,rfl⟩);go_ret;exact⟨k,rfl,HF.out,rfl⟩
   ·have RL:∀ j (h:j<s.data.toList.length),at0<=j->j<k+1->dig (s.data.toList[j]).toNat=true:=λj h h4 h5=>by
     by_cases e:j=k
     ·subst e;rw[hge];exact h3
     ·exact hin j h h4 (by omega)
    clear hin hge;go_wp2_with (go_at_call 95;refine(jg _ _ hbk).mono ?_;rw[h3];rintro e w1 ⟨rfl,rfl⟩);go_roundw
    case rel=>(try ((repeat apply G0);refine⟨?_,rfl⟩));exact⟨k+1,by go_num,by omega,by omega,RL,by trivial⟩
    case measure=>simp[Hh];omega
  ·have hkI:¬(k:Int)<(s.size:Int):=by omega
   have HF:Hid (pY s.data.toList 2 at0 k):=⟨by omega,by have:=HL.out;omega,hin,λh=>by have:=HL.out;omega⟩;clear hin;go_wp2;go_ret;exact⟨k,rfl,HF.out,rfl⟩
theorem lU (r:Nat):ltr r=(sml r||grt r):=rfl
theorem Bt (s:ByteArray)(at0:Nat)(w:GE)(hat:at0<s.size)(hs:s.size<=2000)(hd:dig (s[at0]).toNat=false)(hl:ltr (s[at0]).toNat=true) :
  GR GD 96 #[.string s,.int .i64 (at0:Nat)] w λe w'=>∃e0:Nat,e=.returned (.int .i64 (e0:Nat))/\pY s.data.toList 1 at0 e0/\w'=w:=by
 have HL:Hid (s.data.toList.length=s.size):=fh s;have hb0:(s[at0]'hat).toNat<256:=Ix _;have hatI:(at0:Int)<(s.size:Int):=by omega
 have HD:=GL hl;go_enter Tryz.func96,Tryz.ntmps96;go_wp2_with (go_at_call 95;refine(jg _ _ hb0).mono ?_;rw[hd];rintro e w1 ⟨rfl,rfl⟩);clear hd hl;go_loopw [1] (λv wr=>∃k:Nat,v=.int .i64 (k:Nat)/\at0<=k/\k<=s.size/\(∀ j (h:j<s.data.toList.length),at0<=j->j<k->tks 1 [] (s.data.toList[j]).toNat=true)/\wr=w1) (λv _=>s.size-(Hh v).toNat)
 case atStart=>exact⟨at0,by go_num,by omega,by omega,λj _ h1 h2=>by omega,rfl⟩
 case round =>
  obtain⟨k,rfl,h1,h2,hin,rfl⟩:=hrel;by_cases hlt:k<s.size
  ·have hkl:k<s.data.toList.length:=by have:=HL.out;omega
   have hkI:(k:Int)<(s.size:Int):=by omega
   have hbk:(s[k]'hlt).toNat<256:=Ix _;have hge:=eX s k hlt hkl;have HG:Hid (tks 1 [] (s[k]'hlt).toNat=true->∀ j (h:j<s.data.toList.length),at0<=j->j<k+1->tks 1 [] (s.data.toList[j]).toNat=true):=λh3 j h h4 h5=>by
    by_cases e:j=k
    ·subst e;rw[hge];exact h3
    ·exact hin j h h4 (by omega)
   have HE:Hid (tks 1 [] (s[k]'hlt).toNat=false->pY s.data.toList 1 at0 k):=λh3=>by
    refine⟨?_,by omega,hin,λh=>?_⟩
    ·by_cases e:at0=k
     ·subst e;have h4:=HD.out;simp[tks,h4] at h3
     ·omega
    ·rw[hge];exact h3
   clear hin hge;cases h3:sml (s[k]'hlt).toNat
   ·cases h4:grt (s[k]'hlt).toNat
    ·cases h5:dig (s[k]'hlt).toNat
     ·by_cases h6:(s[k]'hlt).toNat=95
      ·have RL:=HG.out (by simp[tks,h6]);have H6:=GL h6;clear HG HE h6;go_wp2_with (first|(go_at_call 98;refine(jl _ _ hbk).mono ?_;rw[h3];rintro e w1 ⟨rfl,rfl⟩)|(go_at_call 99;refine(qF _ _ hbk).mono ?_;rw[h4];rintro e w1 ⟨rfl,rfl⟩)|(go_at_call 95;refine(jg _ _ hbk).mono ?_;rw[h5];rintro e w1 ⟨rfl,rfl⟩;have h6:=H6.out;clear h3 h4 h5 hbk));go_roundw
       case rel=>(try ((repeat apply G0);refine⟨?_,rfl⟩));exact⟨k+1,by go_num,by omega,by omega,RL,by trivial⟩
       case measure=>simp[Hh];omega
      ·have fin:=HE.out (by simp[tks,lU,h3,h4,h5,h6]);have HF:=GL fin;have h6I:¬((s[k]'hlt).toNat:Int)=95:=by omega
       have h6B:(((s[k]'hlt).toNat:Int)==95)=false:=by simpa using h6I
       clear HG HE h6 fin;go_wp2_with (first|(go_at_call 98;refine(jl _ _ hbk).mono ?_;rw[h3];rintro e w1 ⟨rfl,rfl⟩)|(go_at_call 99;refine(qF _ _ hbk).mono ?_;rw[h4];rintro e w1 ⟨rfl,rfl⟩)|(go_at_call 95;refine(jg _ _ hbk).mono ?_;rw[h5];rintro e w1 ⟨rfl,rfl⟩));go_ret;exact⟨k,rfl,HF.out,rfl⟩
     ·have RL:=HG.out (by simp[tks,h5]);clear HG HE;go_wp2_with (first|(go_at_call 98;refine(jl _ _ hbk).mono ?_;rw[h3];rintro e w1 ⟨rfl,rfl⟩)|(go_at_call 99;refine(qF _ _ hbk).mono ?_;rw[h4];rintro e w1 ⟨rfl,rfl⟩)|(go_at_call 95;refine(jg _ _ hbk).mono ?_;rw[h5];rintro e w1 ⟨rfl,rfl⟩));go_roundw
      case rel=>(try ((repeat apply G0);refine⟨?_,rfl⟩));exact⟨k+1,by go_num,by omega,by omega,RL,by trivial⟩
      case measure=>simp[Hh];omega
    ·have RL:=HG.out (by simp[tks,lU,h4]);clear HG HE;go_wp2_with (first|(go_at_call 98;refine(jl _ _ hbk).mono ?_;rw[h3];rintro e w1 ⟨rfl,rfl⟩)|(go_at_call 99;refine(qF _ _ hbk).mono ?_;rw[h4];rintro e w1 ⟨rfl,rfl⟩));go_roundw
     case rel=>(try ((repeat apply G0);refine⟨?_,rfl⟩));exact⟨k+1,by go_num,by omega,by omega,RL,by trivial⟩
     case measure=>simp[Hh];omega
   ·have RL:=HG.out (by simp[tks,lU,h3]);clear HG HE;go_wp2_with (go_at_call 98;refine(jl _ _ hbk).mono ?_;rw[h3];rintro e w1 ⟨rfl,rfl⟩);go_roundw
    case rel=>(try ((repeat apply G0);refine⟨?_,rfl⟩));exact⟨k+1,by go_num,by omega,by omega,RL,by trivial⟩
    case measure=>simp[Hh];omega
  ·have hkI:¬(k:Int)<(s.size:Int):=by omega
   have HF:Hid (pY s.data.toList 1 at0 k):=⟨by omega,by have:=HL.out;omega,hin,λh=>by have:=HL.out;omega⟩;clear hin;go_wp2;go_ret;exact⟨k,rfl,HF.out,rfl⟩
def pA (l:List UInt8)(v:Int)(b:Bool):Prop:=(b=true/\∀ a,kK l a=.inr ⟨1,v,[],a⟩)\/(b=false/\v=0/\∀ a,kK l a=.inl 111)
def Ck (l:List UInt8)(e:IG):Prop:=∃v b,e=.returned (.tuple #[.int .i64 v,.bool b])/\pA l v b
theorem qh (l:List UInt8)(i:Nat)(h:i<l.length):ib 0 (l.take (i+1))=ib 0 (l.take i)*10+((l[i]).toNat-48):=by
 rw[List.take_add_one,GI h];show ib 0 (l.take i++[l[i]])=_;rw[nl,iS,iU]
theorem my (l:List UInt8)(i:Nat):ib 0 (l.take i)<=ib 0 l:=by
 have h:=JA i l;have h2:=nl 0 (l.take i) (l.drop i);rw[h] at h2;rw[h2];exact qt _ _
theorem AM (s:ByteArray)(w:GE)(h0:0<s.size)(hs:s.size<=2000)(hD:uP s.data.toList) :
  GR GD 97 #[.string s] w λe w'=>Ck s.data.toList e/\w'=w:=by
 have HL:Hid (s.data.toList.length=s.size):=fh s;have hne:s.data.toList≠[]:=λe=>by have:=HL.out;rw[e] at this;simp at this;omega
 have hh:=CQ s h0;by_cases h19:19<s.size
 ·have fin:pA s.data.toList 0 false:=.inr ⟨rfl,rfl,λa=>yo hD (by rw[HL.out];exact h19) a⟩;have HF:=GL fin;have hI:(19:Int)<(s.size:Int):=by omega
  clear fin hh;go_enter Tryz.func97,Tryz.ntmps97;go_wp2;go_ret2;exact⟨⟨_,_,rfl,HF.out⟩,rfl⟩
 ·have hI:¬(19:Int)<(s.size:Int):=by omega
  have hb0:(s[0]'h0).toNat<256:=Ix _;by_cases hlead:1<s.size/\(s[0]'h0).toNat=48
  ·obtain⟨h1,h48⟩:=hlead;have h5:s[0]'h0=48:=I3 h48;have fin:pA s.data.toList 0 false:=.inr ⟨rfl,rfl,λa=>qE (by rw[hh,h5]) (by rw[HL.out];exact h1) a⟩;have HF:=GL fin;have h1I:(1:Int)<(s.size:Int):=by omega
   clear fin hh h5;go_enter Tryz.func97,Tryz.ntmps97;go_wp2;go_ret2;exact⟨⟨_,_,rfl,HF.out⟩,rfl⟩
  ·have HY:Hid (ib 0 s.data.toList<9223372036854775808->pA s.data.toList (ib 0 s.data.toList:Nat) true):=λh=>by
    refine .inl ⟨rfl,λa=>Af hD hne ?_ h a⟩;by_cases h1:1<s.size
    ·left
     rw[hh];intro e;injection e with e
     exact hlead ⟨h1,by rw[e];rfl⟩
    ·right
     rw[HL.out];omega
   have HX:Hid (9223372036854775808<=ib 0 s.data.toList->pA s.data.toList 0 false):=λh=>.inr ⟨rfl,rfl,λa=>vm ((mQ hD hne).2 h) a⟩;have HDD:=GL hD;by_cases h1:1<s.size
   ·have h1I:(1:Int)<(s.size:Int):=by omega
    have h48I:¬((s[0]'h0).toNat:Int)=48:=by
     intro e;exact hlead ⟨h1,by omega⟩
    have h48B:(((s[0]'h0).toNat:Int)==48)=false:=by simpa using h48I
    clear hlead hh;go_enter Tryz.func97,Tryz.ntmps97;go_wp2;go_loopw [4,5] (λv4 v5 wr=>∃k n:Nat,v5=.int .i64 (k:Nat)/\v4=.int .i64 (n:Nat)/\k<=s.size/\n=ib 0 (s.data.toList.take k)/\n<9223372036854775808/\wr=w) (λ_ v _=>s.size-(Hh v).toNat)
    case atStart=>exact⟨0,0,by go_num,by go_num,by omega,by rw[List.take_zero,iU],by omega,rfl⟩
    case round =>
     obtain⟨k,n,rfl,rfl,hk,hn,hnb,rfl⟩:=hrel;have HN:=GL hn;clear hn;by_cases hlt:k<s.size
     ·have hkl:k<s.data.toList.length:=by rw[HL.out];exact hlt
      have hkI:(k:Int)<(s.size:Int):=by omega
      have hdg:=HDD.out (s.data.toList[k]'hkl) (It _);have htd:=qh s.data.toList k hkl;rw[eX s k hlt hkl] at hdg htd;have hle:=my s.data.toList (k+1);obtain⟨d,hd⟩:∃d,d=(s[k]'hlt).toNat-48:=⟨_,rfl⟩;have hd9:d<=9:=by omega
      have hdI:((s[k]'hlt).toNat:Int)-48=(d:Int):=by omega
      rw[<-hd,<-HN.out] at htd;obtain⟨q,hq⟩:∃q,q=(9223372036854775807-d) / 10:=⟨_,rfl⟩;have hqI:(9223372036854775807-(d:Int)).tdiv 10=(q:Int):=by
       rw[Int.tdiv_eq_ediv_of_nonneg (by omega)];omega
      have hwq:IntKind.i64.wrap (q:Int)=(q:Int):=by rw[Ii];omega
      by_cases hov:q<n
      ·have hovI:(q:Int)<(n:Int):=by omega
       have fin:=HX.out (by omega);have HF:=GL fin;clear fin htd hle hd hq hdg;go_wp2;go_ret2;exact⟨⟨_,_,rfl,HF.out⟩,rfl⟩
      ·have hovI:¬(q:Int)<(n:Int):=by omega
       have hnn:10*n+d<9223372036854775808:=by omega
       have HT:=GL htd;clear htd hle hd hq hdg;go_wp2;go_roundw
       case rel=>(try ((repeat apply G0);refine⟨?_,rfl⟩));exact⟨k+1,10*n+d,by go_num,by go_num,by omega,by rw[HT.out];omega,hnn,by trivial⟩
       case measure=>simp[Hh];omega
     ·obtain rfl:k=s.size:=by omega
      have hn2:=HN.out;rw[J8 (by rw[HL.out];exact GC _)] at hn2;have fin:=HY.out (by omega);rw[<-hn2] at fin;have HF:=GL fin;clear fin hn2;go_wp2;go_ret2;exact⟨⟨_,_,rfl,HF.out⟩,rfl⟩
   ·have h1I:¬(1:Int)<(s.size:Int):=by omega
    clear hlead hh;go_enter Tryz.func97,Tryz.ntmps97;go_wp2;go_loopw [4,5] (λv4 v5 wr=>∃k n:Nat,v5=.int .i64 (k:Nat)/\v4=.int .i64 (n:Nat)/\k<=s.size/\n=ib 0 (s.data.toList.take k)/\n<9223372036854775808/\wr=w) (λ_ v _=>s.size-(Hh v).toNat)
    case atStart=>exact⟨0,0,by go_num,by go_num,by omega,by rw[List.take_zero,iU],by omega,rfl⟩
    case round =>
     obtain⟨k,n,rfl,rfl,hk,hn,hnb,rfl⟩:=hrel;have HN:=GL hn;clear hn;by_cases hlt:k<s.size
     ·have hkl:k<s.data.toList.length:=by rw[HL.out];exact hlt
      have hkI:(k:Int)<(s.size:Int):=by omega
      have hdg:=HDD.out (s.data.toList[k]'hkl) (It _);have htd:=qh s.data.toList k hkl;rw[eX s k hlt hkl] at hdg htd;have hle:=my s.data.toList (k+1);obtain⟨d,hd⟩:∃d,d=(s[k]'hlt).toNat-48:=⟨_,rfl⟩;have hd9:d<=9:=by omega
      have hdI:((s[k]'hlt).toNat:Int)-48=(d:Int):=by omega
      rw[<-hd,<-HN.out] at htd;obtain⟨q,hq⟩:∃q,q=(9223372036854775807-d) / 10:=⟨_,rfl⟩;have hqI:(9223372036854775807-(d:Int)).tdiv 10=(q:Int):=by
       rw[Int.tdiv_eq_ediv_of_nonneg (by omega)];omega
      have hwq:IntKind.i64.wrap (q:Int)=(q:Int):=by rw[Ii];omega
      by_cases hov:q<n
      ·have hovI:(q:Int)<(n:Int):=by omega
       have fin:=HX.out (by omega);have HF:=GL fin;clear fin htd hle hd hq hdg;go_wp2;go_ret2;exact⟨⟨_,_,rfl,HF.out⟩,rfl⟩
      ·have hovI:¬(q:Int)<(n:Int):=by omega
       have hnn:10*n+d<9223372036854775808:=by omega
       have HT:=GL htd;clear htd hle hd hq hdg;go_wp2;go_roundw
       case rel=>(try ((repeat apply G0);refine⟨?_,rfl⟩));exact⟨k+1,10*n+d,by go_num,by go_num,by omega,by rw[HT.out];omega,hnn,by trivial⟩
       case measure=>simp[Hh];omega
     ·obtain rfl:k=s.size:=by omega
      have hn2:=HN.out;rw[J8 (by rw[HL.out];exact GC _)] at hn2;have fin:=HY.out (by omega);rw[<-hn2] at fin;have HF:=GL fin;clear fin hn2;go_wp2;go_ret2;exact⟨⟨_,_,rfl,HF.out⟩,rfl⟩
def jb (l:List UInt8):List UInt8 :=
 match l with
 | []=>[]
 | c::r=>if (c.toNat=33\/c.toNat=60)/\r.head?=GB 61 then [c,61] else if sgn c.toNat=true/\c.toNat≠33 then [c] else []
theorem yC (c:UInt8)(r:List UInt8)(q:Nat)(h1:blk c.toNat=false)(h2:ltr c.toNat=false)(w:dig c.toNat=false) :
  (jb (c::r)=[]/\eZ 0 [] q q (c::r)=.inl (110,q))\/(jb (c::r)≠[]/\(jb (c::r)).length<=(c::r).length/\eZ 0 [] q q (c::r)=mv ⟨4,0,jb (c::r),q⟩ (eZ 0 [] (q+(jb (c::r)).length) (q+(jb (c::r)).length) ((c::r).drop (jb (c::r)).length))):=by
 cases f:sgn c.toNat
 ·left
  have b:cls c.toNat=4:=by simp[cls,h1,h2,w,f]
  refine⟨?_,?_⟩
  ·unfold jb;simp only;rw[if_neg,if_neg (by rw[f];simp)];rintro ⟨h5|h5,_⟩<;>(rw[h5] at f;cases f)
  ·rw[gj (k:=0) (by exact h1),b,xi];rfl
 ·have b:cls c.toNat=3:=by simp[cls,h1,h2,w,f]
  by_cases h5:(c.toNat=33\/c.toNat=60)/\r.head?=GB 61
  ·right
   have o:jb (c::r)=[c,61]:=by
    unfold jb;simp only;rw[if_pos h5]
   obtain⟨l,n⟩:=h5;cases r with
   | nil=>cases n
   | cons d v =>
    injection n with n
    subst n;rw[o];refine⟨by simp,by simp,?_⟩;have i:c=33\/c=60:=by
     rcases l with l|l
     ·exact .inl (I3 l)
     ·exact .inr (I3 l)
    have x:Pce 3 [c,61]:=by
     have u:Pce 3 [c]:=by rw[<-b];exact Pce.one c (by rw[b];omega)
     refine u.more 61 ?_;rcases i with rfl|rfl<;>rfl
    have s:=x.reads q v (λd m _=>by
     rw[wC];rcases i with rfl|rfl<;>simp)
    show eZ 0 [] q q ([c,61]++v)=_;rw[s];unfold ge;rw[if_neg (by omega)];have p:jO 3 [c,61] q=.inr ⟨4,0,[c,61],q⟩:=by
     show pL [c,61] q=_;unfold pL;rw[if_neg (by simp)]
    rw[p];rfl
  ·have u:Pce 3 [c]:=by rw[<-b];exact Pce.one c (by rw[b];omega)
   have s:=u.reads q r (λd m e=>by
    subst e;rw[wC];rw[<-IJ];intro t;simp only[Ha,IV,beq_iff_eq,JV,and_true] at t;apply h5;refine⟨?_,?_⟩
    ·rcases t.2 with h|h
     ·left;rw[h];rfl
     ·right;rw[h];rfl
    ·show GB d=GB 61
     congr 1
     exact I3 t.1)
   have g:eZ 0 [] q q (c::r)=ge 3 [c] q (eZ 0 [] (q+1) (q+1) r):=s;by_cases a:c.toNat=33
   ·left
    have j:c=33:=I3 a;refine⟨?_,?_⟩
    ·unfold jb;simp only;rw[if_neg h5,if_neg (by simp[a])]
    ·rw[g,j];rfl
   ·right
    have o:jb (c::r)=[c]:=by
     unfold jb;simp only;rw[if_neg h5,if_pos ⟨f,a⟩]
    rw[o];refine⟨by simp,by simp,?_⟩;rw[g];unfold ge;rw[if_neg (by omega)];have p:jO 3 [c] q=.inr ⟨4,0,[c],q⟩:=by
     show pL [c] q=_;unfold pL;rw[if_neg (by intro e;injection e with e _;rw[e] at a;exact a rfl)]
    rw[p];rfl
def sgA (i:Nat):Nat :=
 match i with
 | 0=>40 | 1=>41 | 2=>123 | 3=>125 | 4=>44 | 5=>58 | 6=>64 | 7=>43 | 8=>45 | 9=>42 | 10=>47 | 11=>37 | 12=>61|_=>60
theorem vD (r:Nat):(sgn r=true/\r≠33) ↔ ∃i,i<14/\sgA i=r:=by
 constructor
 ·rintro ⟨h,a⟩;simp[sgn,or_assoc] at h;rcases h with h|h|h|h|h|h|h|h|h|h|h|h|h|h|h
  ·exact⟨0,by omega,h.symm⟩
  ·exact⟨1,by omega,h.symm⟩
  ·exact⟨2,by omega,h.symm⟩
  ·exact⟨3,by omega,h.symm⟩
  ·exact⟨4,by omega,h.symm⟩
  ·exact⟨5,by omega,h.symm⟩
  ·exact⟨6,by omega,h.symm⟩
  ·exact⟨7,by omega,h.symm⟩
  ·exact⟨8,by omega,h.symm⟩
  ·exact⟨9,by omega,h.symm⟩
  ·exact⟨10,by omega,h.symm⟩
  ·exact⟨11,by omega,h.symm⟩
  ·exact⟨12,by omega,h.symm⟩
  ·exact absurd h a
  ·exact⟨13,by omega,h.symm⟩
 ·rintro ⟨i,b,rfl⟩
  match i,b with
  | 0,_=>exact⟨rfl,by decide⟩
  | 1,_=>exact⟨rfl,by decide⟩
  | 2,_=>exact⟨rfl,by decide⟩
  | 3,_=>exact⟨rfl,by decide⟩
  | 4,_=>exact⟨rfl,by decide⟩
  | 5,_=>exact⟨rfl,by decide⟩
  | 6,_=>exact⟨rfl,by decide⟩
  | 7,_=>exact⟨rfl,by decide⟩
  | 8,_=>exact⟨rfl,by decide⟩
  | 9,_=>exact⟨rfl,by decide⟩
  | 10,_=>exact⟨rfl,by decide⟩
  | 11,_=>exact⟨rfl,by decide⟩
  | 12,_=>exact⟨rfl,by decide⟩
  | 13,_=>exact⟨rfl,by decide⟩
theorem xg (s:ByteArray)(w:GE)(h0:0<s.size)(hs:s.size<=2000)(hx:s.size<=1\/(1<s.size/\¬(s.extract 0 2).toList=[33,61]/\¬(s.extract 0 2).toList=[60,61]))(R:ByteArray)(hR:(∃i,i<14/\sgA i=(s[0]'h0).toNat)/\R=s.extract 0 1\/(∀ i,i<14->sgA i≠(s[0]'h0).toNat)/\R=⟨#[]⟩) :
  GR GD 102 #[.string s] w λe w'=>e=.returned (.string R)/\GK w.heap.size w w':=by
 have HR:=GL hR;have hb:(s[0]'h0).toNat<256:=Ix _;have h0I:(0:Int)<(s.size:Int):=by omega
 have h1s:(1:Int)<=(s.size:Int):=by omega
 clear hR;rcases hx with hx|⟨hx0,hx1,hx2⟩
 ·have h1I:¬(1:Int)<(s.size:Int):=by omega
  go_enter Tryz.func102,Tryz.ntmps102;go_upto_region 4 with fail;obtain⟨A,hA⟩:∃A:ByteArray,A=⟨#[40,41,123,125,44,58,64,43,45,42,47,37,61,60]⟩:=⟨_,rfl⟩;rw[<-hA];have hAs:A.size=14:=by rw[hA];rfl
  have HAA:Hid (∀ i (h:i<A.size),(A[i]).toNat=sgA i):=by
   intro i h;subst hA
   match i,h with
   | 0,_=>rfl
   | 1,_=>rfl
   | 2,_=>rfl
   | 3,_=>rfl
   | 4,_=>rfl
   | 5,_=>rfl
   | 6,_=>rfl
   | 7,_=>rfl
   | 8,_=>rfl
   | 9,_=>rfl
   | 10,_=>rfl
   | 11,_=>rfl
   | 12,_=>rfl
   | 13,_=>rfl
  clear hA;go_wp2_with fail;go_loopw [4] (λv wr=>∃k m:Nat,v=.int .i64 (k:Nat)/\k<=14/\(∀ j,j<k->sgA j≠(s[0]'h0).toNat)/\wr=w.drewN m) (λv _=>14-(Hh v).toNat)
  case atStart=>exact⟨0,0,by go_num,by omega,λj h=>by omega,rfl⟩
  case round =>
   obtain⟨k,m,rfl,hk,hin,rfl⟩:=hrel;by_cases hlt:k<14
   ·have hkI:(k:Int)<14:=by omega
    have hkA:k<A.size:=by omega
    have hak:=HAA.out k hkA;by_cases he:sgA k=(s[0]'h0).toNat
    ·have hRR:R=s.extract 0 1:=by
      rcases HR.out with ⟨_,h⟩|⟨h,_⟩
      ·exact h
      ·exact absurd he (h k hlt)
     have HRR:=GL hRR;rw[he] at hak;clear hRR hin he;go_wp2
     go_quiet (fail)
     go_wp2;go_ret;exact⟨by rw[HRR.out];rfl,bdr (b0 _) _⟩
    ·have hakI:((A[k]'hkA).toNat:Int)≠((s[0]'h0).toNat:Int):=by omega
     have hakB:(((A[k]'hkA).toNat:Int)==((s[0]'h0).toNat:Int))=false:=by simpa using hakI
     have hakB2:((A[k]'hkA).toNat==(s[0]'h0).toNat)=false:=by simp;omega
     have RL:∀ j,j<k+1->sgA j≠(s[0]'h0).toNat:=λj h=>by
      by_cases e:j=k
      ·subst e;exact he
      ·exact hin j (by omega)
     clear hin he hak;go_wp2
     go_quiet (fail)
     rename_i nq
     go_wp2;go_roundw
     case rel=>(try ((repeat apply G0);refine⟨?_,rfl⟩));exact⟨k+1,m+nq,by go_num,by omega,RL,by first|trivial|rw[World.drewN_drewN] | simp⟩
     case measure=>simp[Hh];omega
   ·obtain rfl:k=14:=by omega
    have hRR:R=⟨#[]⟩:=by
     rcases HR.out with ⟨⟨i,h1,h2⟩,_⟩|⟨_,h⟩
     ·exact absurd h2 (hin i h1)
     ·exact h
    have HRR:=GL hRR;clear hRR hin;go_wp2;go_ret;exact⟨by rw[HRR.out];rfl,bdr (b0 _) _⟩
 ·have h1I:(1:Int)<(s.size:Int):=by omega
  have h2I:(2:Int)<=(s.size:Int):=by omega
  have x1:((s.extract 0 2).toList==[33,61])=false:=beq_eq_false_iff_ne.2 hx1;have x2:((s.extract 0 2).toList==[60,61])=false:=beq_eq_false_iff_ne.2 hx2;go_enter Tryz.func102,Tryz.ntmps102;go_upto_region 4 with fail;obtain⟨A,hA⟩:∃A:ByteArray,A=⟨#[40,41,123,125,44,58,64,43,45,42,47,37,61,60]⟩:=⟨_,rfl⟩;rw[<-hA];have hAs:A.size=14:=by rw[hA];rfl
  have HAA:Hid (∀ i (h:i<A.size),(A[i]).toNat=sgA i):=by
   intro i h;subst hA
   match i,h with
   | 0,_=>rfl
   | 1,_=>rfl
   | 2,_=>rfl
   | 3,_=>rfl
   | 4,_=>rfl
   | 5,_=>rfl
   | 6,_=>rfl
   | 7,_=>rfl
   | 8,_=>rfl
   | 9,_=>rfl
   | 10,_=>rfl
   | 11,_=>rfl
   | 12,_=>rfl
   | 13,_=>rfl
  clear hA;go_wp2_with fail;go_loopw [4] (λv wr=>∃k m:Nat,v=.int .i64 (k:Nat)/\k<=14/\(∀ j,j<k->sgA j≠(s[0]'h0).toNat)/\wr=w.drewN m) (λv _=>14-(Hh v).toNat)
  case atStart=>exact⟨0,0,by go_num,by omega,λj h=>by omega,rfl⟩
  case round =>
   obtain⟨k,m,rfl,hk,hin,rfl⟩:=hrel;by_cases hlt:k<14
   ·have hkI:(k:Int)<14:=by omega
    have hkA:k<A.size:=by omega
    have hak:=HAA.out k hkA;by_cases he:sgA k=(s[0]'h0).toNat
    ·have hRR:R=s.extract 0 1:=by
      rcases HR.out with ⟨_,h⟩|⟨h,_⟩
      ·exact h
      ·exact absurd he (h k hlt)
     have HRR:=GL hRR;rw[he] at hak;clear hRR hin he;go_wp2
     go_quiet (fail)
     go_wp2;go_ret;exact⟨by rw[HRR.out];rfl,bdr (b0 _) _⟩
    ·have hakI:((A[k]'hkA).toNat:Int)≠((s[0]'h0).toNat:Int):=by omega
     have hakB:(((A[k]'hkA).toNat:Int)==((s[0]'h0).toNat:Int))=false:=by simpa using hakI
     have hakB2:((A[k]'hkA).toNat==(s[0]'h0).toNat)=false:=by simp;omega
     have RL:∀ j,j<k+1->sgA j≠(s[0]'h0).toNat:=λj h=>by
      by_cases e:j=k
      ·subst e;exact he
      ·exact hin j (by omega)
     clear hin he hak;go_wp2
     go_quiet (fail)
     rename_i nq
     go_wp2;go_roundw
     case rel=>(try ((repeat apply G0);refine⟨?_,rfl⟩));exact⟨k+1,m+nq,by go_num,by omega,RL,by first|trivial|rw[World.drewN_drewN] | simp⟩
     case measure=>simp[Hh];omega
   ·obtain rfl:k=14:=by omega
    have hRR:R=⟨#[]⟩:=by
     rcases HR.out with ⟨⟨i,h1,h2⟩,_⟩|⟨_,h⟩
     ·exact absurd h2 (hin i h1)
     ·exact h
    have HRR:=GL hRR;clear hRR hin;go_wp2;go_ret;exact⟨by rw[HRR.out];rfl,bdr (b0 _) _⟩
theorem tb (s:ByteArray)(h:1<s.size):(s.extract 0 2).data.toList=[s[0],s[1]]:=by
 rw[AV];have a:=fh s;have e:s.data.toList.take 2=[s.data.toList[0]'(by omega),s.data.toList[1]'(by omega)]:=by
  rw[List.take_add_one,List.take_add_one,List.take_zero,GI (by omega),GI (by omega)];rfl
 rw[e,eX s 0 (by omega),eX s 1 h]
theorem yz (s:ByteArray)(h:0<s.size):s.data.toList=s[0]::s.data.toList.drop 1:=by
 have a:=fh s
 have:=mx s.data.toList 0 (by omega)
 rw[List.drop_zero,eX s 0 h] at this;exact this
theorem Fi (s:ByteArray)(w:GE)(h0:0<s.size)(hs:s.size<=2000) :
  GR GD 102 #[.string s] w λe w'=>e=.returned (.string ⟨(jb s.data.toList).toArray⟩)/\GK w.heap.size w w':=by
 have hl:=fh s;have hcl:=yz s h0;by_cases h2:1<s.size/\((s[0]'h0).toNat=33\/(s[0]'h0).toNat=60)/\(s.data.toList.drop 1).head?=GB 61
 ·obtain⟨h1,h3,h4⟩:=h2;have hu:jb s.data.toList=[s[0],61]:=by
   rw[hcl];unfold jb;simp only;rw[if_pos ⟨h3,h4⟩]
  have h5:s[1]'h1=61:=by
   rw[List.head?_drop,GI (by omega),eX s 1 h1] at h4;injection h4
  have htl:=tb s h1;rw[h5] at htl;have hR:s.extract 0 2=⟨(jb s.data.toList).toArray⟩:=by
   rw[hu,<-htl,pU]
  have HR:=GL hR;have h1I:(1:Int)<(s.size:Int):=by omega
  have h2I:(2:Int)<=(s.size:Int):=by omega
  rcases h3 with h3|h3
  ·have hc:s[0]'h0=33:=I3 h3;rw[hc] at htl;have hA:(s.extract 0 2).toList=[33,61]:=by rw[IT];exact htl
   clear hcl hu hR htl hl hc h3 h4 h5;go_enter Tryz.func102,Tryz.ntmps102;go_wp2;go_ret;exact⟨by rw[<-HR.out];rfl,b0 _⟩
  ·have hc:s[0]'h0=60:=I3 h3;rw[hc] at htl;have hA:(s.extract 0 2).toList=[60,61]:=by rw[IT];exact htl
   clear hcl hu hR htl hl hc h3 h4 h5;go_enter Tryz.func102,Tryz.ntmps102;go_wp2;go_ret;exact⟨by rw[<-HR.out];rfl,b0 _⟩
 ·refine xg s w h0 hs ?_ _ ?_
  ·by_cases h1:1<s.size
   ·right
    have htl:=tb s h1;have hh:(s.data.toList.drop 1).head?=GB s[1]:=by rw[List.head?_drop,GI (by omega),eX s 1 h1]
    refine⟨h1,?_,?_⟩
    ·intro e;rw[IT,htl] at e;injection e with e1 e2
     injection e2 with e2 _
     exact h2 ⟨h1,.inl (by rw[e1];rfl),by rw[hh,e2]⟩
    ·intro e;rw[IT,htl] at e;injection e with e1 e2
     injection e2 with e2 _
     exact h2 ⟨h1,.inr (by rw[e1];rfl),by rw[hh,e2]⟩
   ·left
    omega
  ·have hu:jb s.data.toList=if sgn (s[0]'h0).toNat=true/\(s[0]'h0).toNat≠33 then [s[0]] else []:=by
    rw[hcl];unfold jb;simp only;rw[if_neg];rintro ⟨h3,h4⟩;refine h2 ⟨?_,h3,h4⟩;rw[List.head?_drop] at h4;by_cases h1:1<s.size
    ·exact h1
    ·rw[He (by omega)] at h4;cases h4
   by_cases h3:sgn (s[0]'h0).toNat=true/\(s[0]'h0).toNat≠33
   ·left
    rw[hu,if_pos h3];refine⟨(vD _).1 h3,?_⟩;rw[tK,hcl];rfl
   ·right
    rw[hu,if_neg h3];refine⟨λi hi e=>h3 ((vD _).2 ⟨i,hi,e⟩),rfl⟩
def fQ (l:List UInt8)(a:Nat)(e:IG):Prop :=
 (∃er:Nat,e=.returned (.tuple #[.agg #[.int .i64 0,.int .i64 0,.string ⟨#[]⟩,.int .i64 0],.int .i64 0,.int .i64 er])/\eZ 0 [] a a (l.drop a)=.inl (er,a)/\er≠0) \/
 (∃(x:Tk) (b:Nat),e=.returned (.tuple #[.agg (tka x),.int .i64 b,.int .i64 0])/\a<b/\b<=l.length/\eZ 0 [] a a (l.drop a)=mv x (eZ 0 [] b b (l.drop b)))
theorem gz {c:Func}{p u v:Tmp}(h:c.results=#[.cell p 67,.tmp u,.tmp v])(tmps:Array GJ)(w:GE)(g:Nat)(v0 v1 v2 v3:GJ)(t:Hl)(b:Nat × Nat)
  (d:tmps.getD p undef=.pointer (GB ⟨g,0,GA⟩)) (f:w.heap[g]?=GB (.cells #[v0,v1,v2,v3] t b)) :
  (results c tmps).run GD w=.ok (.tuple #[.agg #[v0,v1,v2,v3],tmps.getD u undef,tmps.getD v undef]) w:=by
 have e:=run_loadVar_row (P:=GD) w g t 67 #[v0,v1,v2,v3] b _ f Tryz.underlying67 rfl (by kernel_rfl);have a:tmps[p]?.getD undef=.pointer (GB ⟨g,0,GA⟩):=by simpa using d
 simp[results,h,a,asAddr,e,Result.andThen]
theorem rq {w w1:GE}{A:Obj}(h:GK (w.alloc A).heap.size (w.alloc A) w1):w1.heap[w.heap.size]?=GB A/\GK w.heap.size w w1:=by
 refine⟨?_,(b1 _ _).trans (h.mono (by simp))⟩;rw[h.block _ (by simp)];exact GH _ _
theorem nO (s:ByteArray)(a e:Nat)(b:a<e)(h1:e<=s.size):(s.extract a e).data.toList=(s.data.toList.drop a).take (e-a)/\(s.extract a e).size=e-a:=by
 refine⟨lT s a e,?_⟩;rw[<-fh,lT];exact vE _ _ _ b (by rw[fh];exact h1)
theorem Bc (l:List UInt8)(a e:Nat)(h1:e<=l.length)(d:∀ j (h:j<l.length),a<=j->j<e->tks 2 [] (l[j]).toNat=true):uP ((l.drop a).take (e-a)):=by
 intro c i;obtain⟨j,g,rfl⟩:=List.mem_iff_getElem.1 i;have f:j<e-a:=by simp at g;omega
 rw[List.getElem_take,List.getElem_drop];have b:a+j<l.length:=by omega
 have:=d (a+j) b (by omega) (by omega)
 simpa [tks,dig] using this
theorem CP {r:Nat}(h1:blk r=false)(a:dig r=true):cls r=2:=by
 have h2:ltr r=false:=by
  simp[dig] at a;simp[ltr,sml];omega
 simp[cls,h1,h2,a]
theorem wk {r:Nat}(h1:blk r=false)(h2:ltr r=true):cls r=1:=by simp[cls,h1,h2]
theorem xo (s:ByteArray)(at0:Nat)(w:GE)(hat:at0<s.size)(hs:s.size<=2000)(hb:blk (s[at0]).toNat=false)(hd:dig (s[at0]).toNat=true) :
  GR GD 50 #[.string s,.int .i64 (at0:Nat)] w λe w'=>fQ s.data.toList at0 e/\GK w.heap.size w w':=by
 have HL:Hid (s.data.toList.length=s.size):=fh s;have hb0:(s[at0]'hat).toNat<256:=Ix _;have hatI:(at0:Int)<(s.size:Int):=by omega
 have hal:at0<s.data.toList.length:=by rw[HL.out];exact hat
 have HC:Hid (cls (s.data.toList[at0]'hal).toNat=2):=by rw[eX s at0 hat hal];exact CP hb hd
 go_enter Tryz.func50,Tryz.ntmps50;go_wp2_with (first|(go_at_call 95;refine(jg _ _ hb0).mono ?_;rw[hd];rintro e w1 ⟨rfl,rfl⟩)|(go_at_call 96;refine(Fg s at0 _ hat hs hd).mono ?_;rintro e w1 ⟨e0,rfl,hE,rfl⟩;refine Hid.out ?_));refine GL ?_;obtain⟨h1,h2,h3,h4⟩:=hE;rw[HL.out] at h2;obtain⟨hx1,hx2⟩:=nO s at0 e0 h1 h2;have hsr:=py s.data.toList 2 at0 e0 (.inr rfl) h1 (by rw[HL.out];exact h2) HC.out h3 h4;have hdg:=Bc s.data.toList at0 e0 (by rw[HL.out];exact h2) h3;have HSR:=GL hsr;have hI1:(at0:Int)<=(e0:Int):=by omega
 have hI2:(e0:Int)<=(s.size:Int):=by omega
 rw[<-hx1] at hdg;have HX:=GL hx1;have hz1:0<(s.extract at0 e0).size:=by omega
 have hz2:(s.extract at0 e0).size<=2000:=by omega
 clear hsr h3 h4 hx1 hx2;go_wp2_with (go_at_call 97;refine(AM _ _ hz1 hz2 hdg).mono ?_;rintro e w2 ⟨⟨v,b,rfl,ho⟩,rfl⟩;refine Hid.out ?_);refine GL ?_;rw[HX.out] at ho;clear hdg hz1 hz2;rcases ho with ⟨rfl,hn⟩|⟨rfl,rfl,hn⟩
 ·have HP:Hid (fQ s.data.toList at0 (.returned (.tuple #[.agg #[.int .i64 1,.int .i64 v,.string ⟨#[]⟩,.int .i64 (at0:Nat)],.int .i64 (e0:Nat),.int .i64 0]))):=by
   refine .inr ⟨⟨1,v,[],at0⟩,e0,rfl,h1,by rw[HL.out];exact h2,?_⟩;rw[HSR.out];unfold ge;rw[if_neg (by omega)];show (match kK _ at0 with | .inl e=>_ | .inr x=>_)=_;rw[hn at0]
  clear hn;go_wp2;refine GG (gz rfl _ _ w.heap.size _ _ _ _ _ _ rfl (GH _ _)) rfl ?_;exact⟨HP.out,b1 _ _⟩
 ·have HP:Hid (fQ s.data.toList at0 (.returned (.tuple #[.agg #[.int .i64 0,.int .i64 0,.string ⟨#[]⟩,.int .i64 0],.int .i64 0,.int .i64 111]))):=by
   refine .inl ⟨111,rfl,?_,by omega⟩;rw[HSR.out];unfold ge;rw[if_neg (by omega)];show (match kK _ at0 with | .inl e=>_ | .inr x=>_)=_;rw[hn at0]
  clear hn;go_wp2;refine GG (gz rfl _ _ w.heap.size _ _ _ _ _ _ rfl (GH _ _)) rfl ?_;exact⟨HP.out,b1 _ _⟩
theorem sY (s:ByteArray)(at0:Nat)(w:GE)(hat:at0<s.size)(hs:s.size<=2000)(hb:blk (s[at0]).toNat=false)(hd:dig (s[at0]).toNat=false)(hsm:sml (s[at0]).toNat=true) :
  GR GD 50 #[.string s,.int .i64 (at0:Nat)] w λe w'=>fQ s.data.toList at0 e/\GK w.heap.size w w':=by
 have HL:Hid (s.data.toList.length=s.size):=fh s;have hb0:(s[at0]'hat).toNat<256:=Ix _;have hatI:(at0:Int)<(s.size:Int):=by omega
 have hal:at0<s.data.toList.length:=by rw[HL.out];exact hat
 have hl:ltr (s[at0]'hat).toNat=true:=by simp[ltr,hsm]
 have HC:Hid (cls (s.data.toList[at0]'hal).toNat=1):=by rw[eX s at0 hat hal];exact wk hb hl
 go_enter Tryz.func50,Tryz.ntmps50;go_wp2_with (first|(go_at_call 95;refine(jg _ _ hb0).mono ?_;rw[hd];rintro e w1 ⟨rfl,rfl⟩)|(go_at_call 98;refine(jl _ _ hb0).mono ?_;rw[hsm];rintro e w1 ⟨rfl,rfl⟩)|(go_at_call 96;refine(Bt s at0 _ hat hs hd hl).mono ?_;rintro e w1 ⟨e0,rfl,hE,rfl⟩;refine Hid.out ?_));refine GL ?_;obtain⟨h1,h2,h3,h4⟩:=hE;rw[HL.out] at h2;obtain⟨hx1,hx2⟩:=nO s at0 e0 h1 h2;have hsr:=py s.data.toList 1 at0 e0 (.inl rfl) h1 (by rw[HL.out];exact h2) HC.out h3 h4;have HSR:=GL hsr;have hI1:(at0:Int)<=(e0:Int):=by omega
 have hI2:(e0:Int)<=(s.size:Int):=by omega
 have HX:=GL hx1;have hz2:(s.extract at0 e0).size<=GY:=by unfold GY;omega
 clear hsr h3 h4 hx1 hx2;go_wp2_with (go_at_call 100;refine(uZ _ _ hz2).mono ?_;rw[HX.out];rintro e w2 ⟨rfl,hb2⟩;refine Hid.out ?_);refine GL ?_;obtain⟨k2,B2⟩:=rq hb2;clear hb2;have HY:Hid (∀ x,jz ((s.data.toList.drop at0).take (e0-at0)) at0=.inr x->eZ 0 [] at0 at0 (s.data.toList.drop at0)=mv x (eZ 0 [] e0 e0 (s.data.toList.drop e0))):=λx h=>by
  rw[HSR.out];unfold ge;rw[if_neg (by omega)];show (match jz _ at0 with | .inl e=>_ | .inr x=>_)=_;rw[h]
 have HN:Hid (∀ e,jz ((s.data.toList.drop at0).take (e0-at0)) at0=.inl e->eZ 0 [] at0 at0 (s.data.toList.drop at0)=.inl (e,at0)):=λx h=>by
  rw[HSR.out];unfold ge;rw[if_neg (by omega)];show (match jz _ at0 with | .inl e=>_ | .inr x=>_)=_;rw[h]
 have hbt:(⟨((s.data.toList.drop at0).take (e0-at0)).toArray⟩:ByteArray)=s.extract at0 e0:=(tK s at0 e0).symm;cases hw:gS ((s.data.toList.drop at0).take (e0-at0))
 ·have hn0:B2=B2:=rfl;have hk2:=GL k2;go_wp2_with (go_at_call 101;refine(qM _ _ hz2).mono ?_;rw[HX.out];rintro e w3 ⟨rfl,hb3⟩;refine Hid.out ?_);refine GL ?_;have k3:w3.heap[w.heap.size]?=GB (.cells #[.int .i64 0,.int .i64 0,.string ⟨#[]⟩,.int .i64 0] 67 (0,0)):=by
   rw[hb3.block _ (GF hk2.out)];exact hk2.out
  have B3:=B2.trans (hb3.mono B2.size);clear hb3 k2 hk2 B2 hn0;have c0:w3.cell? ⟨w.heap.size,0,GA⟩=GB (.int .i64 0):=by rw[Hf _ _ _ _ _ _ k3];rfl
  have c1:w3.cell? ⟨w.heap.size,1,GA⟩=GB (.int .i64 0):=by rw[Hf _ _ _ _ _ _ k3];rfl
  have c2:w3.cell? ⟨w.heap.size,2,GA⟩=GB (.string ⟨#[]⟩):=by rw[Hf _ _ _ _ _ _ k3];rfl
  have c3:w3.cell? ⟨w.heap.size,3,GA⟩=GB (.int .i64 0):=by rw[Hf _ _ _ _ _ _ k3];rfl
  have fz:∀ j,w3.frozen? ⟨w.heap.size,j,GA⟩=false:=λj=>Ik w3 _ j _ _ k3;have HK2:=GL k3;clear k3;cases hn:eE ((s.data.toList.drop at0).take (e0-at0))
  ·have HP:Hid (fQ s.data.toList at0 (.returned (.tuple #[.agg #[.int .i64 0,.int .i64 0,.string ⟨#[]⟩,.int .i64 0],.int .i64 0,.int .i64 112]))):=by
    refine .inl ⟨112,rfl,HN.out 112 ?_,by omega⟩;unfold jz;rw[hw,hn];rfl
   clear hw hn hbt;go_wp2;refine GG (gz rfl _ _ w.heap.size _ _ _ _ _ _ rfl (sP _ _ _ _ HK2.out)) rfl ?_;exact⟨HP.out,nr _ _ _ _ B3 (by omega)⟩
  ·have HP:Hid (fQ s.data.toList at0 (.returned (.tuple #[.agg #[.int .i64 2,.int .i64 0,.string (s.extract at0 e0),.int .i64 (at0:Nat)],.int .i64 (e0:Nat),.int .i64 0]))):=by
    refine .inr ⟨⟨2,0,(s.data.toList.drop at0).take (e0-at0),at0⟩,e0,by simp only[tka,hbt];rfl,h1,by rw[HL.out];exact h2,HY.out _ ?_⟩;unfold jz;rw[hw,hn];rfl
   clear hw hn hbt;go_wp2;refine GG (gz rfl _ _ w.heap.size _ _ _ _ _ _ rfl (sP _ _ _ _ HK2.out)) rfl ?_;exact⟨HP.out,nr _ _ _ _ B3 (by omega)⟩
 ·have HP:Hid (fQ s.data.toList at0 (.returned (.tuple #[.agg #[.int .i64 3,.int .i64 0,.string (s.extract at0 e0),.int .i64 (at0:Nat)],.int .i64 (e0:Nat),.int .i64 0]))):=by
   refine .inr ⟨⟨3,0,(s.data.toList.drop at0).take (e0-at0),at0⟩,e0,by simp only[tka,hbt];rfl,h1,by rw[HL.out];exact h2,HY.out _ ?_⟩;unfold jz;rw[hw];rfl
  have c0:w2.cell? ⟨w.heap.size,0,GA⟩=GB (.int .i64 0):=by rw[Hf _ _ _ _ _ _ k2];rfl
  have c1:w2.cell? ⟨w.heap.size,1,GA⟩=GB (.int .i64 0):=by rw[Hf _ _ _ _ _ _ k2];rfl
  have c2:w2.cell? ⟨w.heap.size,2,GA⟩=GB (.string ⟨#[]⟩):=by rw[Hf _ _ _ _ _ _ k2];rfl
  have c3:w2.cell? ⟨w.heap.size,3,GA⟩=GB (.int .i64 0):=by rw[Hf _ _ _ _ _ _ k2];rfl
  have fz:∀ j,w2.frozen? ⟨w.heap.size,j,GA⟩=false:=λj=>Ik w2 _ j _ _ k2;have HK2:=GL k2;clear k2;clear hw hbt;go_wp2;refine GG (gz rfl _ _ w.heap.size _ _ _ _ _ _ rfl (sP _ _ _ _ HK2.out)) rfl ?_;exact⟨HP.out,nr _ _ _ _ B2 (by omega)⟩
theorem sr (s:ByteArray)(at0:Nat)(w:GE)(hat:at0<s.size)(hs:s.size<=2000)(hb:blk (s[at0]).toNat=false)(hd:dig (s[at0]).toNat=false)(hsm:sml (s[at0]).toNat=false)(hgr:grt (s[at0]).toNat=true) :
  GR GD 50 #[.string s,.int .i64 (at0:Nat)] w λe w'=>fQ s.data.toList at0 e/\GK w.heap.size w w':=by
 have HL:Hid (s.data.toList.length=s.size):=fh s;have hb0:(s[at0]'hat).toNat<256:=Ix _;have hatI:(at0:Int)<(s.size:Int):=by omega
 have hal:at0<s.data.toList.length:=by rw[HL.out];exact hat
 have hl:ltr (s[at0]'hat).toNat=true:=by rw[lU,hsm,hgr];rfl
 have HC:Hid (cls (s.data.toList[at0]'hal).toNat=1):=by rw[eX s at0 hat hal];exact wk hb hl
 go_enter Tryz.func50,Tryz.ntmps50;go_wp2_with (first|(go_at_call 95;refine(jg _ _ hb0).mono ?_;rw[hd];rintro e w1 ⟨rfl,rfl⟩)|(go_at_call 98;refine(jl _ _ hb0).mono ?_;rw[hsm];rintro e w1 ⟨rfl,rfl⟩)|(go_at_call 99;refine(qF _ _ hb0).mono ?_;rw[hgr];rintro e w1 ⟨rfl,rfl⟩)|(go_at_call 96;refine(Bt s at0 _ hat hs hd hl).mono ?_;rintro e w1 ⟨e0,rfl,hE,rfl⟩;refine Hid.out ?_));refine GL ?_;obtain⟨h1,h2,h3,h4⟩:=hE;rw[HL.out] at h2;obtain⟨hx1,hx2⟩:=nO s at0 e0 h1 h2;have hsr:=py s.data.toList 1 at0 e0 (.inl rfl) h1 (by rw[HL.out];exact h2) HC.out h3 h4;have HSR:=GL hsr;have hI1:(at0:Int)<=(e0:Int):=by omega
 have hI2:(e0:Int)<=(s.size:Int):=by omega
 have HX:=GL hx1;have hz2:(s.extract at0 e0).size<=GY:=by unfold GY;omega
 clear hsr h3 h4 hx1 hx2;go_wp2_with (go_at_call 100;refine(uZ _ _ hz2).mono ?_;rw[HX.out];rintro e w2 ⟨rfl,hb2⟩;refine Hid.out ?_);refine GL ?_;obtain⟨k2,B2⟩:=rq hb2;clear hb2;have HY:Hid (∀ x,jz ((s.data.toList.drop at0).take (e0-at0)) at0=.inr x->eZ 0 [] at0 at0 (s.data.toList.drop at0)=mv x (eZ 0 [] e0 e0 (s.data.toList.drop e0))):=λx h=>by
  rw[HSR.out];unfold ge;rw[if_neg (by omega)];show (match jz _ at0 with | .inl e=>_ | .inr x=>_)=_;rw[h]
 have HN:Hid (∀ e,jz ((s.data.toList.drop at0).take (e0-at0)) at0=.inl e->eZ 0 [] at0 at0 (s.data.toList.drop at0)=.inl (e,at0)):=λx h=>by
  rw[HSR.out];unfold ge;rw[if_neg (by omega)];show (match jz _ at0 with | .inl e=>_ | .inr x=>_)=_;rw[h]
 have hbt:(⟨((s.data.toList.drop at0).take (e0-at0)).toArray⟩:ByteArray)=s.extract at0 e0:=(tK s at0 e0).symm;cases hw:gS ((s.data.toList.drop at0).take (e0-at0))
 ·have hn0:B2=B2:=rfl;have hk2:=GL k2;go_wp2_with (go_at_call 101;refine(qM _ _ hz2).mono ?_;rw[HX.out];rintro e w3 ⟨rfl,hb3⟩;refine Hid.out ?_);refine GL ?_;have k3:w3.heap[w.heap.size]?=GB (.cells #[.int .i64 0,.int .i64 0,.string ⟨#[]⟩,.int .i64 0] 67 (0,0)):=by
   rw[hb3.block _ (GF hk2.out)];exact hk2.out
  have B3:=B2.trans (hb3.mono B2.size);clear hb3 k2 hk2 B2 hn0;have c0:w3.cell? ⟨w.heap.size,0,GA⟩=GB (.int .i64 0):=by rw[Hf _ _ _ _ _ _ k3];rfl
  have c1:w3.cell? ⟨w.heap.size,1,GA⟩=GB (.int .i64 0):=by rw[Hf _ _ _ _ _ _ k3];rfl
  have c2:w3.cell? ⟨w.heap.size,2,GA⟩=GB (.string ⟨#[]⟩):=by rw[Hf _ _ _ _ _ _ k3];rfl
  have c3:w3.cell? ⟨w.heap.size,3,GA⟩=GB (.int .i64 0):=by rw[Hf _ _ _ _ _ _ k3];rfl
  have fz:∀ j,w3.frozen? ⟨w.heap.size,j,GA⟩=false:=λj=>Ik w3 _ j _ _ k3;have HK2:=GL k3;clear k3;cases hn:eE ((s.data.toList.drop at0).take (e0-at0))
  ·have HP:Hid (fQ s.data.toList at0 (.returned (.tuple #[.agg #[.int .i64 0,.int .i64 0,.string ⟨#[]⟩,.int .i64 0],.int .i64 0,.int .i64 112]))):=by
    refine .inl ⟨112,rfl,HN.out 112 ?_,by omega⟩;unfold jz;rw[hw,hn];rfl
   clear hw hn hbt;go_wp2;refine GG (gz rfl _ _ w.heap.size _ _ _ _ _ _ rfl (sP _ _ _ _ HK2.out)) rfl ?_;exact⟨HP.out,nr _ _ _ _ B3 (by omega)⟩
  ·have HP:Hid (fQ s.data.toList at0 (.returned (.tuple #[.agg #[.int .i64 2,.int .i64 0,.string (s.extract at0 e0),.int .i64 (at0:Nat)],.int .i64 (e0:Nat),.int .i64 0]))):=by
    refine .inr ⟨⟨2,0,(s.data.toList.drop at0).take (e0-at0),at0⟩,e0,by simp only[tka,hbt];rfl,h1,by rw[HL.out];exact h2,HY.out _ ?_⟩;unfold jz;rw[hw,hn];rfl
   clear hw hn hbt;go_wp2;refine GG (gz rfl _ _ w.heap.size _ _ _ _ _ _ rfl (sP _ _ _ _ HK2.out)) rfl ?_;exact⟨HP.out,nr _ _ _ _ B3 (by omega)⟩
 ·have HP:Hid (fQ s.data.toList at0 (.returned (.tuple #[.agg #[.int .i64 3,.int .i64 0,.string (s.extract at0 e0),.int .i64 (at0:Nat)],.int .i64 (e0:Nat),.int .i64 0]))):=by
   refine .inr ⟨⟨3,0,(s.data.toList.drop at0).take (e0-at0),at0⟩,e0,by simp only[tka,hbt];rfl,h1,by rw[HL.out];exact h2,HY.out _ ?_⟩;unfold jz;rw[hw];rfl
  have c0:w2.cell? ⟨w.heap.size,0,GA⟩=GB (.int .i64 0):=by rw[Hf _ _ _ _ _ _ k2];rfl
  have c1:w2.cell? ⟨w.heap.size,1,GA⟩=GB (.int .i64 0):=by rw[Hf _ _ _ _ _ _ k2];rfl
  have c2:w2.cell? ⟨w.heap.size,2,GA⟩=GB (.string ⟨#[]⟩):=by rw[Hf _ _ _ _ _ _ k2];rfl
  have c3:w2.cell? ⟨w.heap.size,3,GA⟩=GB (.int .i64 0):=by rw[Hf _ _ _ _ _ _ k2];rfl
  have fz:∀ j,w2.frozen? ⟨w.heap.size,j,GA⟩=false:=λj=>Ik w2 _ j _ _ k2;have HK2:=GL k2;clear k2;clear hw hbt;go_wp2;refine GG (gz rfl _ _ w.heap.size _ _ _ _ _ _ rfl (sP _ _ _ _ HK2.out)) rfl ?_;exact⟨HP.out,nr _ _ _ _ B2 (by omega)⟩
theorem uX (s:ByteArray)(at0:Nat)(w:GE)(hat:at0<s.size)(hs:s.size<=2000)(hb:blk (s[at0]).toNat=false)(hd:dig (s[at0]).toNat=false)(hsm:sml (s[at0]).toNat=false)(hgr:grt (s[at0]).toNat=false) :
  GR GD 50 #[.string s,.int .i64 (at0:Nat)] w λe w'=>fQ s.data.toList at0 e/\GK w.heap.size w w':=by
 have HL:Hid (s.data.toList.length=s.size):=fh s;have hb0:(s[at0]'hat).toNat<256:=Ix _;have hatI:(at0:Int)<(s.size:Int):=by omega
 have hatL:(at0:Int)<=(s.size:Int):=by omega
 have hal:at0<s.data.toList.length:=by rw[HL.out];exact hat
 have hl:ltr (s[at0]'hat).toNat=false:=by rw[lU,hsm,hgr];rfl
 have hda:=mx s.data.toList at0 hal;rw[eX s at0 hat hal] at hda;have hsr:=yC (s[at0]'hat) (s.data.toList.drop (at0+1)) at0 hb hl hd;rw[<-hda] at hsr;obtain⟨hx1,hx2⟩:=nO s at0 s.size hat (GC _);rw[J8 (by rw[List.length_drop,HL.out];exact GC _)] at hx1;have HSR:=GL hsr;have HX:=GL hx1;have hz1:0<(s.extract at0 s.size).size:=by omega
 have hz2:(s.extract at0 s.size).size<=2000:=by omega
 clear hda hsr hx1 hx2 hl;go_enter Tryz.func50,Tryz.ntmps50;go_wp2_with (first|(go_at_call 95;refine(jg _ _ hb0).mono ?_;rw[hd];rintro e w1 ⟨rfl,rfl⟩)|(go_at_call 98;refine(jl _ _ hb0).mono ?_;rw[hsm];rintro e w1 ⟨rfl,rfl⟩)|(go_at_call 99;refine(qF _ _ hb0).mono ?_;rw[hgr];rintro e w1 ⟨rfl,rfl⟩)|(go_at_call 102;refine(Fi _ _ hz1 hz2).mono ?_;rw[HX.out];rintro e w2 ⟨rfl,hb2⟩;refine Hid.out ?_));refine GL ?_;obtain⟨k2,B2⟩:=rq hb2;clear hb2 hz1 hz2;have c0:w2.cell? ⟨w.heap.size,0,GA⟩=GB (.int .i64 0):=by rw[Hf _ _ _ _ _ _ k2];rfl
 have c1:w2.cell? ⟨w.heap.size,1,GA⟩=GB (.int .i64 0):=by rw[Hf _ _ _ _ _ _ k2];rfl
 have c2:w2.cell? ⟨w.heap.size,2,GA⟩=GB (.string ⟨#[]⟩):=by rw[Hf _ _ _ _ _ _ k2];rfl
 have c3:w2.cell? ⟨w.heap.size,3,GA⟩=GB (.int .i64 0):=by rw[Hf _ _ _ _ _ _ k2];rfl
 have fz:∀ j,w2.frozen? ⟨w.heap.size,j,GA⟩=false:=λj=>Ik w2 _ j _ _ k2;have HK2:=GL k2;clear k2;obtain⟨U,hU⟩:∃U:ByteArray,U=⟨(jb (s.data.toList.drop at0)).toArray⟩:=⟨_,rfl⟩;have hUs:U.size=(jb (s.data.toList.drop at0)).length:=by rw[hU,Dt]
 rw[<-hU];rcases HSR.out with ⟨h1,h2⟩|⟨h1,h2,h3⟩
 ·have hU0:U=⟨#[]⟩:=by rw[hU,h1]
  have HP:Hid (fQ s.data.toList at0 (.returned (.tuple #[.agg #[.int .i64 0,.int .i64 0,.string ⟨#[]⟩,.int .i64 0],.int .i64 0,.int .i64 110]))):=.inl ⟨110,rfl,h2,by omega⟩;clear hU hUs h1 h2;subst hU0;go_wp2;refine GG (gz rfl _ _ w.heap.size _ _ _ _ _ _ rfl (sP _ _ _ _ HK2.out)) rfl ?_;exact⟨HP.out,nr _ _ _ _ B2 (by omega)⟩
 ·have hln:0<(jb (s.data.toList.drop at0)).length:=List.length_pos_iff.2 h1;have hdl:(s.data.toList.drop at0).length=s.size-at0:=by rw[List.length_drop,HL.out]
  have h4:at0+U.size<=s.size:=by omega
  have hne:U.toList.isEmpty=false:=pm (by omega);have HP:Hid (fQ s.data.toList at0 (.returned (.tuple #[.agg #[.int .i64 4,.int .i64 0,.string U,.int .i64 (at0:Nat)],.int .i64 ((at0:Int)+(U.size:Int)),.int .i64 0]))):=by
   refine .inr ⟨⟨4,0,jb (s.data.toList.drop at0),at0⟩,at0+U.size,?_,by omega,by rw[HL.out];exact h4,?_⟩
   ·simp only[tka,<-hU,Int.natCast_add];rfl
   ·rw[h3,<-hUs,List.drop_drop]
  have h4I:(at0:Int)+(U.size:Int)<=2000:=by omega
  clear hU hUs h1 h2 h3 hln hdl;go_wp2;refine GG (gz rfl _ _ w.heap.size _ _ _ _ _ _ rfl (sP _ _ _ _ HK2.out)) rfl ?_;exact⟨HP.out,nr _ _ _ _ B2 (by omega)⟩
theorem De (s:ByteArray)(at0:Nat)(w:GE)(hat:at0<s.size)(hs:s.size<=2000)(hb:blk (s[at0]).toNat=false) :
  GR GD 50 #[.string s,.int .i64 (at0:Nat)] w λe w'=>fQ s.data.toList at0 e/\GK w.heap.size w w':=by
 cases hd:dig (s[at0]'hat).toNat
 ·cases hsm:sml (s[at0]'hat).toNat
  ·cases hgr:grt (s[at0]'hat).toNat
   ·exact uX s at0 w hat hs hb hd hsm hgr
   ·exact sr s at0 w hat hs hb hd hsm hgr
  ·exact sY s at0 w hat hs hb hd hsm
 ·exact xo s at0 w hat hs hb hd
abbrev I44:Nat->Prop:=λk=>k=4
theorem qo {w wr:GE}{o:Nat->Nat}(h:dQ I44 w (λ_=>0) wr o):GK w.heap.size w wr:=h.below (λ_ _ h=>by cases h)
structure RsQ (l:List UInt8)(w wr:GE)(o:Nat->Nat)(v:GJ)(q:Nat)(ts:List Tk):Prop where
 row:Row wr o 4 67 4 v ts.length (fw ts)
 len:ts.length<=q
 run:om ts (eZ 0 [] q q (l.drop q))=pJ l
 stp:dQ I44 w (λ_=>0) wr o
theorem CY (s:ByteArray)(w:GE)(hs:s.size<=GY) :
  GR GD 27 #[.string s] w λe w'=>∃v er at0,e=.returned (.tuple #[v,.int .i64 er,.int .i64 at0])/\Dy w w' v er at0 (iy s.data.toList)/\GK w.heap.size w w':=by
 unfold GY at hs;have HL:Hid (s.data.toList.length=s.size):=fh s;by_cases hbig:2000<s.size
 ·have fin:iy s.data.toList=.inl (113,0):=by
   unfold iy;rw[HL.out,if_pos hbig]
  have hI:(2000:Int)<(s.size:Int):=by omega
  go_enter Tryz.func27,Tryz.ntmps27;go_wp2;go_ret3;exact⟨_,_,_,rfl,IX ⟨113,0,fin,rfl,rfl,rfl⟩,b0 _⟩
 ·have HF:Hid (iy s.data.toList=pJ s.data.toList):=by
   show _=_;unfold iy;rw[HL.out,if_neg hbig]
  have hs2:s.size<=2000:=by omega
  have hI:¬(2000:Int)<(s.size:Int):=by omega
  obtain⟨ii,hii,hz0,hz1,hz2⟩:=ek yv;go_enter Tryz.func27,Tryz.ntmps27;go_wp2_with fail;go_loopw [5,6] (λv5 v6 wr=>∃q ts o,v6=.int .i64 (q:Nat)/\q<=s.size/\RsQ s.data.toList w wr o v5 q ts) (λ_ v6 _=>s.size-(Hh v6).toNat)
  case atStart=>exact⟨0,[],λ_=>0,by go_num,by omega,Row.nil _ _ _ _ _,by simp,rfl,dQ.refl _ _ _⟩
  case round =>
   obtain⟨q,ts,o,rfl,hq,J⟩:=hrel;have hB:=qo J.stp;have hlen:=J.len;by_cases hlt:q<s.size
   ·have hqI:(q:Int)<(s.size:Int):=by omega
    have hql:q<s.data.toList.length:=by rw[HL.out];exact hlt
    have hbq:(s[q]'hlt).toNat<256:=Ix _;have hda:=mx s.data.toList q hql;rw[eX s q hlt hql] at hda;cases hb:blk (s[q]'hlt).toNat
    ·have HJ:=GL J;clear J hda;go_wp2_with (first|(go_at_call 49;refine(DP _ _ hbq).mono ?_;rw[hb];rintro e w1 ⟨rfl,rfl⟩)|(go_at_call 50;refine(De s q _ hlt hs2 hb).mono ?_;rintro e w2 ⟨⟨er,rfl,h1,h2⟩|⟨x,nx,rfl,h1,h2,h3⟩,hb2⟩<;>refine Hid.out ?_))
     ·refine GL ?_;have her0:¬(er:Int)=0:=by omega
      have herb:((er:Int) != 0)=true:=by simpa using her0
      have fin:pJ s.data.toList=.inl (er,q):=by
       rw[<-HJ.out.run,h1,zl]
      have HN:=GL fin;clear fin h1;have hbw:=hB.trans (hb2.mono hB.size);go_wp2;go_ret3;exact⟨_,_,_,rfl,IX ⟨er,q,HF.out.trans HN.out,rfl,rfl,rfl⟩,hbw.trans ((b1 _ _).mono hbw.size)⟩
     ·refine GL ?_;obtain⟨xk,xn,xt,xa⟩:=x;rw[HL.out] at h2;have J:=HJ.out;have s2:dQ (λ_=>False) w1 o w2 o:=dQ.ofBelow o hb2;have R3':=(J.row.step s2 (by simp)).step ((gU (λ_=>False) w2 o (.cells #[.int .i64 (xk:Nat),.int .i64 xn,.string ⟨xt.toArray⟩,.int .i64 (xa:Nat)] 67)).alloc (.cells #[.int .i64 (xk:Nat),.int .i64 xn,.string ⟨xt.toArray⟩,.int .i64 (xa:Nat)] 67)) (by simp);have hps:ts.length<=2001:=by omega
      have HR:Hid (om (ts++[⟨xk,xn,xt,xa⟩]) (eZ 0 [] nx nx (s.data.toList.drop nx))=pJ s.data.toList):=by
       show _=_;rw[yp,<-J.run,h3]
      clear J s2 h3;simp only[tka];go_wp2_with (first|(at_builtin;refine eb rfl (.tmp 34) (.tmp 36) 59 rfl 67 ii (.agg #[.int .i64 0,.int .i64 0,.string ⟨#[]⟩,.int .i64 0]) 4 40 Tryz.underlying59 hii hz0 hz1 hz2 rfl (by decide) o 4 _ ts.length (fw ts) rfl R3' ⟨w2.heap.size+1,0,GA⟩ 1 1 [.int .i64 (xk:Nat),.int .i64 xn,.string ⟨xt.toArray⟩,.int .i64 (xa:Nat)] rfl rfl ?c1 ?c2 (by decide) ?c3 ?c4 ?_)|go_in)
      case c1=>exact nA (by simp) _ _ _ _ _
      case c2=>intro u hu;simp at hu;rcases hu with rfl|rfl|rfl|rfl<;>rfl
      case c3=>unfold GY;omega
      case c4=>omega
      intro g5 cap5 w5 o5 R5 s5';have J:=HJ.out;have s5:dQ (λk=>k=4) w1 o w5 o5:=(((dQ.ofBelow (I:=λk=>k=4) o hb2).alloc _).alloc _).trans s5';have RR:Row w5 o5 4 67 4 (.slice (GB ⟨g5,0,GA⟩) (ts.length+1) cap5) (ts++[Tk.mk xk xn xt xa]).length (fw (ts++[Tk.mk xk xn xt xa])):=by
       rw[nE,G4];exact R5
      have JN:RsQ s.data.toList w w5 o5 (.slice (GB ⟨g5,0,GA⟩) (ts.length+1) cap5) nx (ts++[Tk.mk xk xn xt xa]):=⟨RR,by simp;omega,HR.out,J.stp.trans s5⟩;have HN:=GL JN;clear R3' R5 s5' RR J s5 JN;go_wp2;go_roundw
      case rel=>(try ((repeat apply G0);refine⟨?_,rfl⟩));exact⟨nx,_,o5,by go_num,by omega,HN.out⟩
      case measure=>simp[Hh];omega
    ·have JN:RsQ s.data.toList w wr o u5 (q+1) ts:=by
      refine⟨J.row,by omega,?_,J.stp⟩;have h1:=J.run;rw[hda,fV (k:=0) (by exact hb),lP _ [] _ (q+1)] at h1;exact h1
     have HN:=GL JN;clear J JN hda;go_wp2_with (go_at_call 49;refine(DP _ _ hbq).mono ?_;rw[hb];rintro e w1 ⟨rfl,rfl⟩);go_roundw
     case rel=>(try ((repeat apply G0);refine⟨?_,rfl⟩));exact⟨q+1,ts,o,by go_num,by omega,HN.out⟩
     case measure=>simp[Hh];omega
   ·obtain rfl:q=s.size:=by omega
    have hps:ts.length<=2001:=by omega
    have HJ:=GL J;have R3':=J.row.step (gU (λ_=>False) wr o (.cells #[.int .i64 0,.int .i64 0,.string ⟨#[]⟩,.int .i64 (s.size:Nat)] 67)) (by simp);clear J;go_wp2_with (first|(at_builtin;refine eb rfl (.tmp 39) (.tmp 43) 59 rfl 67 ii (.agg #[.int .i64 0,.int .i64 0,.string ⟨#[]⟩,.int .i64 0]) 4 40 Tryz.underlying59 hii hz0 hz1 hz2 rfl (by decide) o 4 _ ts.length (fw ts) rfl R3' ⟨wr.heap.size,0,GA⟩ 1 1 [.int .i64 0,.int .i64 0,.string ⟨#[]⟩,.int .i64 (s.size:Nat)] rfl rfl ?d1 ?d2 (by decide) ?d3 ?d4 ?_)|go_in)
    case d1=>exact nA (by simp) _ _ _ _ _
    case d2=>intro u hu;simp at hu;rcases hu with rfl|rfl|rfl|rfl<;>rfl
    case d3=>unfold GY;omega
    case d4=>omega
    intro g5 cap5 w5 o5 R5 s5';have J:=HJ.out;have s5:dQ (λk=>k=4) wr o w5 o5:=(gU _ wr o _).trans s5';have S5:=J.stp.trans s5;have RN:pJ s.data.toList=.inr (ts++[⟨0,0,[],s.size⟩]):=by
     have:=J.run
     rw[List.drop_of_length_le (by rw[HL.out];exact GC _)] at this;rw[<-this];exact AK _ _
    have RR:Row w5 o5 4 67 4 (.slice (GB ⟨g5,0,GA⟩) (ts.length+1) cap5) (ts++[Tk.mk 0 0 [] s.size]).length (fw (ts++[Tk.mk 0 0 [] s.size])):=by
     rw[nE,G4];exact R5
    have OR:=RR.fresh S5;have hbe:=qo S5;have HN:=GL RN;clear R3' R5 s5' RR J s5 RN S5;go_wp2;go_ret3;exact⟨_,_,_,rfl,Or.inr ⟨_,HF.out.trans HN.out,rfl,rfl,OR⟩,hbe⟩
theorem Dh (w:GE)(k:Nat):w.drew.heap[k]?=w.heap[k]?:=rfl
theorem Bm {wx:GE}{bq er a:Nat}(d:wx.heap[bq]?=GB (.cells #[.int .i64 er,.int .i64 a] 113)):wx.cell? ⟨bq,0,GA⟩=GB (.int .i64 er)/\wx.cell? ⟨bq,1,GA⟩=GB (.int .i64 a):=by
 obtain⟨c,b,-⟩:=Blk.cells2 (o:=λ_=>0) (i:=0) ⟨d,rfl⟩;exact⟨c,b⟩
section
variable {w w1:GE}{B bq er a:Nat}{v0 v1 v2 v3 v4 ve va:GJ}
theorem cf7 (b:w1.heap[bq]?=GB (.cells #[.int .i64 er,.int .i64 a] 113))(c:B+2<bq):((GX (GX (GX (GX (GX (GX (GX w1 ⟨B,0,GA⟩ (.int .i64 0)) ⟨B,1,GA⟩ (.int .i64 0)) ⟨B,2,GA⟩ (.string ⟨#[]⟩)) ⟨B,3,GA⟩ (.slice GA 0 0)) ⟨B,4,GA⟩ (.int .i64 0)) ⟨B+1,0,GA⟩ (.int .i64 er)) ⟨B+2,0,GA⟩ (.int .i64 a))).drew.cell? ⟨bq,0,GA⟩=GB (.int .i64 er)/\((GX (GX (GX (GX (GX (GX (GX w1 ⟨B,0,GA⟩ (.int .i64 0)) ⟨B,1,GA⟩ (.int .i64 0)) ⟨B,2,GA⟩ (.string ⟨#[]⟩)) ⟨B,3,GA⟩ (.slice GA 0 0)) ⟨B,4,GA⟩ (.int .i64 0)) ⟨B+1,0,GA⟩ (.int .i64 er)) ⟨B+2,0,GA⟩ (.int .i64 a))).drew.cell? ⟨bq,1,GA⟩=GB (.int .i64 a):=Bm (wx:=((GX (GX (GX (GX (GX (GX (GX w1 ⟨B,0,GA⟩ (.int .i64 0)) ⟨B,1,GA⟩ (.int .i64 0)) ⟨B,2,GA⟩ (.string ⟨#[]⟩)) ⟨B,3,GA⟩ (.slice GA 0 0)) ⟨B,4,GA⟩ (.int .i64 0)) ⟨B+1,0,GA⟩ (.int .i64 er)) ⟨B+2,0,GA⟩ (.int .i64 a))).drew) ((Dh _ bq).trans ((GP (GX (GX (GX (GX (GX (GX w1 ⟨B,0,GA⟩ (.int .i64 0)) ⟨B,1,GA⟩ (.int .i64 0)) ⟨B,2,GA⟩ (.string ⟨#[]⟩)) ⟨B,3,GA⟩ (.slice GA 0 0)) ⟨B,4,GA⟩ (.int .i64 0)) ⟨B+1,0,GA⟩ (.int .i64 er)) ⟨B+2,0,GA⟩ bq (.int .i64 a) (show bq≠B+2 by omega)).trans ((GP (GX (GX (GX (GX (GX w1 ⟨B,0,GA⟩ (.int .i64 0)) ⟨B,1,GA⟩ (.int .i64 0)) ⟨B,2,GA⟩ (.string ⟨#[]⟩)) ⟨B,3,GA⟩ (.slice GA 0 0)) ⟨B,4,GA⟩ (.int .i64 0)) ⟨B+1,0,GA⟩ bq (.int .i64 er) (show bq≠B+1 by omega)).trans ((im w1 B bq (.int .i64 0) (.int .i64 0) (.string ⟨#[]⟩) (.slice GA 0 0) (.int .i64 0) (by omega)).trans b))))
end
def DL (w:GE)(b:Rs Ex)(e:IG)(w':GE):Prop :=
 match b with
 | ⟨GA⟩=>False
 | ⟨GB (.inl (er,a))⟩=>e=.returned (.tuple #[exV fN GA 0,.int .i64 er,.int .i64 a])/\GK w.heap.size w w'
 | ⟨GB (.inr (x,_))⟩=>∃ao cap,e=.returned (.tuple #[exV x ao cap,.int .i64 0,.int .i64 0])/\Sl w' (Nw w.heap.size) x.kids ao/\GK w.heap.size w w'
theorem QS.bad5 {w:GE}{rb o q er a:Nat}{all:List Tk}(h:QS w rb all o q (.inl (er,a))):((er:Int)==0)=false/\w.cell? ⟨rb,4,GA⟩=GB (.int .i64 er)/\w.cell? ⟨rb,5,GA⟩=GB (.int .i64 a):=by
 obtain⟨i,o',c,h1,h2,d⟩:=h;obtain⟨_,_,_,_,_,_,_,_,_,_,_,c4,c5,b⟩:=h1.next (GI h2);exact⟨by simp;omega,c4,c5⟩
theorem QS.new {w:GE}{g a:Nat}{ts:List Tk}(d:g<w.heap.size)(i:∀ j u,(fw ts)[j]?=GB u->w.cell? ⟨g,j,GA⟩=GB u)(h:ts.length<=3000)(c:ts.length<=a)(b:a<=GY)(e:WFT ts) :
  QS (w.alloc (.cells #[.slice (GB ⟨g,0,GA⟩) ts.length a,.int .i64 0,.int .i64 0,.int .i64 0,.int .i64 0,.int .i64 0] 64)) w.heap.size ts 0 0 (.inr ts) :=
 ⟨0,0,⟨g,a,GH w _,d,λj u f=>(((GN _ w).alloc (GC _) _).cell (p:=⟨g,j,GA⟩) d).trans (i j u f),h,c,b⟩,rfl,e,by omega,by omega⟩
theorem xV {w:GE}{b0:Nat}{v:GJ}{ts:List Tk}(k:w.ownsRow b0 67 4 v ts.length (fw ts))(l:0<ts.length):∃g cap,v=.slice (GB ⟨g,0,GA⟩) ts.length cap/\g<w.heap.size/\ts.length<=cap/\cap<=GY/\∀ j u,(fw ts)[j]?=GB u->w.cell? ⟨g,j,GA⟩=GB u:=by
 have f:Row w (λ_=>0) 0 67 4 v ts.length (fw ts):=⟨pP k,λ_ _=>rfl⟩;obtain⟨g,cap,rfl,-,e,d,i,a,-⟩:=f.pos l;refine⟨g,cap,rfl,i,e,d,λj u c=>?_⟩;rw[a j ?_]
 ·exact c
 ·have b:=f.len;rw[<-b];by_cases h:j<(fw ts).length
  ·exact h
  ·rw[He (by omega)] at c;cases c
theorem yM {n:Nat}{ts:List Tk}{X:Ex}{er a:Nat}(c:Nou (fL n 1 0 0) (.inr ts))(Q:Qd (fL n 1 0 0) (.inr ts) X (.inl (er,a))):jj n ts=.bad er a:=by
 have h1:=Q.1;simp only[onw] at h1;unfold jj;cases b:fL n 1 0 0 ts using Rs.on with
 | out=>exact absurd b (c ts rfl)
 | bad d a2 =>
  rw[b] at h1;simp only[stp] at h1;injection h1 with h1
  injection h1 with h1 h2
  subst h1 h2;rfl
 | ok y t=>rw[b] at h1;cases h1
theorem xF {n:Nat}{ts:List Tk}{X:Ex}{y:Tk}{r:List Tk}(c:Nou (fL n 1 0 0) (.inr ts))(Q:Qd (fL n 1 0 0) (.inr ts) X (.inr (y::r))):jj n ts=if y.k=0 then .ok X (y::r) else .bad 120 y.a:=by
 have h1:=Q.1;simp only[onw] at h1;unfold jj;cases b:fL n 1 0 0 ts using Rs.on with
 | out=>exact absurd b (c ts rfl)
 | bad d a2=>rw[b] at h1;cases h1
 | ok z t =>
  rw[b] at h1;simp only[stp] at h1;injection h1 with h1
  subst h1;rw[Q.2 ts z _ rfl b];rfl
theorem vX (s:ByteArray)(w:GE)(hs:s.size<=GY) :
  GR GD 8 #[.string s] w (DL w (fZ s.data.toList)):=by
 obtain⟨W,f⟩:=exq (fZ s.data.toList);rw[<-f];have HW:Hid (W=fZ s.data.toList):=f;have hn:W≠.out:=by rw[f];exact tW _
 have B0:GK w.heap.size w (w.alloc exZ):=(GN _ w).alloc (GC _) _;have Z0:(w.alloc exZ).heap[w.heap.size]?=GB exZ:=GH w _;have al:w.heap.size<(w.alloc exZ).heap.size:=by simp
 have c1:=CY s (w.alloc exZ) hs;clear f;go_enter Tryz.func8,Tryz.ntmps8;go_wp2_with fail;refine c1.mono ?_;rintro e w1 ⟨v,er,az,rfl,hO,b1⟩;have B1:GK w.heap.size w w1:=B0.trans (b1.mono (by omega));have V:=(b1.block _ al).trans Z0;have O:w.heap.size<w1.heap.size:=GF V;clear c1 b1 Z0 B0;rcases hO with ⟨e,p,K,rfl,rfl,rfl⟩|⟨ts,K,rfl,rfl,J⟩
 ·have he:=qR K;have am:((e:Int)==0)=false:=by rw[beq_eq_false_iff_ne];omega
  have ap:((e:Int) != 0)=true:=by simpa using am
  have m:Hid (W=.bad e p):=by show W=_;rw[HW.out];unfold fZ;rw[K]
  have F:=((((B1.setCell (p:=⟨w.heap.size,0,GA⟩) (GC _) (.int .i64 0)).setCell (p:=⟨w.heap.size,1,GA⟩) (GC _) (.int .i64 0)).setCell (p:=⟨w.heap.size,2,GA⟩) (GC _) (.string ⟨#[]⟩)).setCell (p:=⟨w.heap.size,3,GA⟩) (GC _) (.slice GA 0 0)).setCell (p:=⟨w.heap.size,4,GA⟩) (GC _) (.int .i64 0);have D:=eT (.int .i64 0) (.int .i64 0) (.string ⟨#[]⟩) (.slice GA 0 0) (.int .i64 0) V;have M:Hid (∃c,c=(GX (GX (GX (GX (GX w1 ⟨w.heap.size,0,GA⟩ (.int .i64 0)) ⟨w.heap.size,1,GA⟩ (.int .i64 0)) ⟨w.heap.size,2,GA⟩ (.string ⟨#[]⟩)) ⟨w.heap.size,3,GA⟩ (.slice GA 0 0)) ⟨w.heap.size,4,GA⟩ (.int .i64 0))/\c.cell? ⟨w.heap.size,0,GA⟩=GB (.int .i64 0)/\c.cell? ⟨w.heap.size,1,GA⟩=GB (.int .i64 0)/\c.cell? ⟨w.heap.size,2,GA⟩=GB (.string ⟨#[]⟩)/\c.cell? ⟨w.heap.size,3,GA⟩=GB (.slice GA 0 0)/\c.cell? ⟨w.heap.size,4,GA⟩=GB (.int .i64 0)/\GK w.heap.size w c):=by
   obtain⟨A,z,u,u3,t,-⟩:=dT D;exact⟨_,rfl,A,z,u,u3,t,F⟩
  obtain⟨z0,z1,z2,z3,z4,zf⟩:=dT V;clear D F;clear HW K B1 V he;go_wp2;obtain⟨c,d,A,z,u,u3,t,BZ⟩:=M.out;clear M;rw[<-d];clear d;exact GG (v:=.tuple #[exV fN GA 0,.int .i64 e,.int .i64 p]) (by simp[results,Tryz.results8,go_sem,A,z,u,u3,t,exV,fN,Fs.len]) rfl (by rw[m.out];exact⟨rfl,BZ⟩)
 ·have P:=lY K;have f:W=jj 30000 ts:=by rw[HW.out];unfold fZ;rw[K]
  have H:Hid (W=jj 30000 ts):=f;have j:Nou (fL 30000 1 0 0) (.inr ts):=λt0 h0 e=>hn (by cases h0;rw[f];unfold jj;rw[e];rfl);have ac:WFT ts:=wa _ _ _ _ _ _ P.2.1;have TI:∀ x,x ∈ ts->iE x:=λx hx s h1 h2=>(EM K x hx).is h1 h2;obtain⟨g,o,rfl,hg,ah,ag,C⟩:=xV J P.2.2.2.2.1;have hA:=QS.new hg C (by omega) ah ag ac;have kA:=(dX.refl w1.heap.size w1).alloc (.cells #[.slice (GB ⟨g,0,GA⟩) ts.length o,.int .i64 0,.int .i64 0,.int .i64 0,.int .i64 0,.int .i64 0] 64);have ZA:=(GO w1 (.cells #[.slice (GB ⟨g,0,GA⟩) ts.length o,.int .i64 0,.int .i64 0,.int .i64 0,.int .i64 0,.int .i64 0] 64) _ O).trans V;have BA:=B1.alloc (by omega) (.cells #[.slice (GB ⟨g,0,GA⟩) ts.length o,.int .i64 0,.int .i64 0,.int .i64 0,.int .i64 0,.int .i64 0] 64);have c2:=(wU 30000 (by omega)).1 _ _ ts 1 0 0 _ TI (by omega) (by omega) hA j;have ak:(w1.alloc (.cells #[.slice (GB ⟨g,0,GA⟩) ts.length o,.int .i64 0,.int .i64 0,.int .i64 0,.int .i64 0,.int .i64 0] 64)).heap.size=w1.heap.size+1:=by simp
  have ad:=hA.lt;clear HW K P J f C hA ac TI hn hg ah ag kA;go_wp2_with fail;refine c2.mono ?_;rintro e w2 ⟨X,ao,cap,st,rfl,S2,h2,k2,L⟩;have b2:=k2.below (Im O) ad;have Z2:=k2.blk ZA (by omega);have B2:=BA.trans b2;have aa:w.heap.size<w2.heap.size:=GF Z2;have B:=h2.alloc (bxE X ao cap);have G:=(GO w2 (bxE X ao cap) _ aa).trans Z2;have I:=B2.alloc (by omega) (bxE X ao cap);have Y:(w2.alloc (bxE X ao cap)).heap[w2.heap.size]?=GB (bxE X ao cap):=GH w2 _;have Z:=S2.allocN (bxE X ao cap);have ai:w1.heap.size<w2.heap.size:=h2.lt;rw[dU];go_upto_region 6 with fail;generalize w2.alloc (bxE X ao cap)=w3 at *;obtain⟨xb,ab⟩:=exq w2.heap.size;rw[<-ab] at Y ai ⊢;have au:w.heap.size<xb:=by omega
  have aj:w.heap.size<w1.heap.size:=O;have Z:=Z.low (show w.heap.size+1<=_ from (by omega));clear c2 S2 h2 k2 b2 Z2 B2 BA ZA B1 V aa ab ak ad;generalize w1.heap.size=rb at *
  match st,B,L with
  | .inl (er,a),B,L =>
   have m:Hid (W=.bad er a):=by show W=_;rw[H.out];exact yM j L
   clear H L j;obtain⟨hb,d4,d5⟩:=B.bad5;have Q:((er:Int) != 0)=true:=by simpa using hb
   go_quiet (fail)
   have l:GK w3.heap.size w3 (w3.drewN nq):=bdr (GN _ _) nq;have U:=B.below l;have E:=(l.block _ (GF G)).trans G;have N:=I.trans (l.mono I.size);generalize w3.drewN nq=w4 at *;clear l B G I Y Z hb d4 d5 Q;obtain⟨hb,d4,d5⟩:=U.bad5;have Q:((er:Int) != 0)=true:=by simpa using hb
   have F:=((((N.setCell (p:=⟨w.heap.size,0,GA⟩) (GC _) (.int .i64 0)).setCell (p:=⟨w.heap.size,1,GA⟩) (GC _) (.int .i64 0)).setCell (p:=⟨w.heap.size,2,GA⟩) (GC _) (.string ⟨#[]⟩)).setCell (p:=⟨w.heap.size,3,GA⟩) (GC _) (.slice GA 0 0)).setCell (p:=⟨w.heap.size,4,GA⟩) (GC _) (.int .i64 0);have D:=eT (.int .i64 0) (.int .i64 0) (.string ⟨#[]⟩) (.slice GA 0 0) (.int .i64 0) E;have M:Hid (∃c,c=(GX (GX (GX (GX (GX w4 ⟨w.heap.size,0,GA⟩ (.int .i64 0)) ⟨w.heap.size,1,GA⟩ (.int .i64 0)) ⟨w.heap.size,2,GA⟩ (.string ⟨#[]⟩)) ⟨w.heap.size,3,GA⟩ (.slice GA 0 0)) ⟨w.heap.size,4,GA⟩ (.int .i64 0))/\c.cell? ⟨w.heap.size,0,GA⟩=GB (.int .i64 0)/\c.cell? ⟨w.heap.size,1,GA⟩=GB (.int .i64 0)/\c.cell? ⟨w.heap.size,2,GA⟩=GB (.string ⟨#[]⟩)/\c.cell? ⟨w.heap.size,3,GA⟩=GB (.slice GA 0 0)/\c.cell? ⟨w.heap.size,4,GA⟩=GB (.int .i64 0)/\GK w.heap.size w c):=by
    obtain⟨A,z,u,u3,t,-⟩:=dT D;exact⟨_,rfl,A,z,u,u3,t,F⟩
   obtain⟨z0,z1,z2,z3,z4,zf⟩:=dT E;clear D F;clear U N E;go_upto_region 9 with fail;go_region
   all_goals
    go_wp2;obtain⟨c,d,A,z,u,u3,t,BZ⟩:=M.out;clear M;have S:=BZ.drew;rw[<-d];clear d;exact GG (v:=.tuple #[exV fN GA 0,.int .i64 er,.int .i64 a]) (by simp[results,Tryz.results8,go_sem,A,z,u,u3,t,exV,fN,Fs.len]) rfl (by rw[m.out];exact⟨rfl,S⟩)
  | .inr [],B,L=>exact absurd rfl (B.nn [] rfl)
  | .inr (y::r),B,L =>
   have q:Hid (W=if y.k=0 then .ok X (y::r) else .bad 120 y.a):=by show W=_;rw[H.out];exact xF j L
   clear H L j;obtain⟨i3,g3,ar,L3,ax,aw,aq,an,ay,af,d0,d1,-,-,d4,⟨t0,t1,t2,t3⟩,hf⟩:=B.ok;have av:(i3:Int)<(L3:Int):=by omega
   by_cases T:y.k=0
   ·have m:Hid (W=.ok X (y::r)):=by show W=_;rw[q.out,if_pos T]
    have bk:((y.k:Int)==0)=true:=by simp[T]
    have R:((y.k:Int) != 0)=false:=by simp[T]
    clear q T
    go_quiet (fail)
    have l:GK w3.heap.size w3 (w3.drewN nq):=bdr (GN _ _) nq;have e4:=(l.cell (p:=⟨rb,4,GA⟩) B.lt).trans d4;have E:=(l.block _ (GF G)).trans G;have X4:=(l.block _ (GF Y)).trans Y;have N:=I.trans (l.mono I.size);have S4:=Z.mono (λi _ hl=>l.block i hl) l.size (λ_ h _=>h);generalize w3.drewN nq=w4 at *;clear l B G I Y Z d0 d1 d4 t0 t1 t2 t3 hf af bk R;have F:=((((N.setCell (p:=⟨w.heap.size,0,GA⟩) (GC _) (.int .i64 X.k)).setCell (p:=⟨w.heap.size,1,GA⟩) (GC _) (.int .i64 X.n)).setCell (p:=⟨w.heap.size,2,GA⟩) (GC _) (stv X.nm)).setCell (p:=⟨w.heap.size,3,GA⟩) (GC _) (.slice ao X.kids.len cap)).setCell (p:=⟨w.heap.size,4,GA⟩) (GC _) (.int .i64 X.a);have D:=eT (.int .i64 X.k) (.int .i64 X.n) (stv X.nm) (.slice ao X.kids.len cap) (.int .i64 X.a) E;have SE:Sl _ (Nw w.heap.size) _ _:=(S4.set5 (b:=w.heap.size) (by omega) (.int .i64 X.k) (.int .i64 X.n) (stv X.nm) (.slice ao X.kids.len cap) (.int .i64 X.a)).low (by omega);obtain⟨z0,z1,z2,z3,z4,zf⟩:=dT E;obtain⟨x0,x1,x2,x3,x4,xf⟩:=dT X4;obtain⟨A,z,u,u3,t,-⟩:=dT D;clear D E X4 N S4;go_wp2;exact GG (v:=.tuple #[exV X ao cap,.int .i64 0,.int .i64 0]) (by simp[results,Tryz.results8,go_sem,A,z,u,u3,t,exV]) rfl (by rw[m.out];exact⟨ao,cap,rfl,SE,F⟩)
   ·have m:Hid (W=.bad 120 y.a):=by show W=_;rw[q.out,if_neg T]
    have bk:((y.k:Int)==0)=false:=by simp;omega
    have R:((y.k:Int) != 0)=true:=by simp;omega
    clear q T
    go_quiet (fail)
    have l:GK w3.heap.size w3 (w3.drewN nq):=bdr (GN _ _) nq;have U:=B.below l;have E:=(l.block _ (GF G)).trans G;have N:=I.trans (l.mono I.size);generalize w3.drewN nq=w4 at *;clear l B G I Y Z d0 d1 d4 t0 t1 t2 t3 hf af bk R;have c5:GR GD 29 #[.pointer (GB ⟨rb,0,GA⟩),.int .i64 120] w4 λr' w'=>r'=.returned (.tuple #[])/\QS w' rb ts 0 0 (.inl (120,y.a))/\dX rb w4 w':=jN 120 (by decide) U;have ae:=U.lt;go_wp2_with fail;refine c5.mono ?_;rintro e w5 ⟨rfl,h5,k5⟩;have Z5:=k5.blk E (by omega);have B5:=N.trans (k5.below (Im aj) ae);clear c5 k5 E N U ae;obtain⟨hb,d4,d5⟩:=h5.bad5;have Q:((120:Int) != 0)=true:=by decide
    have F:=((((B5.setCell (p:=⟨w.heap.size,0,GA⟩) (GC _) (.int .i64 0)).setCell (p:=⟨w.heap.size,1,GA⟩) (GC _) (.int .i64 0)).setCell (p:=⟨w.heap.size,2,GA⟩) (GC _) (.string ⟨#[]⟩)).setCell (p:=⟨w.heap.size,3,GA⟩) (GC _) (.slice GA 0 0)).setCell (p:=⟨w.heap.size,4,GA⟩) (GC _) (.int .i64 0);have D:=eT (.int .i64 0) (.int .i64 0) (.string ⟨#[]⟩) (.slice GA 0 0) (.int .i64 0) Z5;have M:Hid (∃c,c=(GX (GX (GX (GX (GX w5 ⟨w.heap.size,0,GA⟩ (.int .i64 0)) ⟨w.heap.size,1,GA⟩ (.int .i64 0)) ⟨w.heap.size,2,GA⟩ (.string ⟨#[]⟩)) ⟨w.heap.size,3,GA⟩ (.slice GA 0 0)) ⟨w.heap.size,4,GA⟩ (.int .i64 0))/\c.cell? ⟨w.heap.size,0,GA⟩=GB (.int .i64 0)/\c.cell? ⟨w.heap.size,1,GA⟩=GB (.int .i64 0)/\c.cell? ⟨w.heap.size,2,GA⟩=GB (.string ⟨#[]⟩)/\c.cell? ⟨w.heap.size,3,GA⟩=GB (.slice GA 0 0)/\c.cell? ⟨w.heap.size,4,GA⟩=GB (.int .i64 0)/\GK w.heap.size w c):=by
     obtain⟨A,z,u,u3,t,-⟩:=dT D;exact⟨_,rfl,A,z,u,u3,t,F⟩
    obtain⟨z0,z1,z2,z3,z4,zf⟩:=dT Z5;clear D F;clear h5 B5 Z5;go_upto_region 9 with fail;go_region
    all_goals
     go_wp2;obtain⟨c,d,A,z,u,u3,t,BZ⟩:=M.out;clear M;have S:=BZ.drew;rw[<-d];clear d;exact GG (v:=.tuple #[exV fN GA 0,.int .i64 (120:Nat),.int .i64 (y.a:Nat)]) (by simp[results,Tryz.results8,go_sem,A,z,u,u3,t,exV,fN,Fs.len]) rfl (by rw[m.out];exact⟨rfl,S⟩)
def tkG (x:Tk):Prop:=-9223372036854775808<=x.n/\x.n<=9223372036854775807/\x.t.length<=2000/\x.a<=2000
def Fs.gd:Fs->Prop
 | ⟨GA⟩=>True
 | ⟨GB ⟨_,n,nm,a,ks,r⟩⟩=>-9223372036854775808<=n/\n<=9223372036854775807/\nm.length<=2000/\0<=a/\a<=2000/\ks.gd/\r.gd
theorem Fs.gd_app:∀ {x y:Fs},x.gd->y.gd->(x.app y).gd
 | ⟨GA⟩,y,h,k=>k
 | ⟨GB ⟨_,_,_,_,_,r⟩⟩,y,h,k=>⟨h.1,h.2.1,h.2.2.1,h.2.2.2.1,h.2.2.2.2.1,h.2.2.2.2.2.1,Fs.gd_app h.2.2.2.2.2.2 k⟩
def Ex.gd (e:Ex):Prop:=(one e).gd
def Ex.sz (e:Ex):Nat:=(one e).size
theorem Ex.gd_mk {k n:Int}{nm:List UInt8}{a:Nat}{ks:Fs}(h1:-9223372036854775808<=n)(h2:n<=9223372036854775807)(b:nm.length<=2000)(c:a<=2000)(h5:ks.gd):(⟨k,n,nm,(a:Nat),ks⟩:Ex).gd:=⟨h1,h2,b,by show (0:Int)<=(a:Nat);omega,by show ((a:Nat):Int)<=2000;omega,h5,trivial⟩
theorem Ex.sz_mk (k n:Int)(nm:List UInt8)(a:Int)(ks:Fs):(⟨k,n,nm,a,ks⟩:Ex).sz=ks.size+1:=rfl
theorem kR {x:Fs}{e:Ex}(h:x.gd)(k:e.gd):(x.snoc e).gd:=Fs.gd_app h k
theorem kY (x:Fs)(e:Ex):(x.snoc e).size=x.size+e.sz:=Fs.size_app x (one e)
def Gb {α:Type}(T:List Tk)(b:Nat)(P:α->Prop)(sz:α->Nat)(R:Rs α):Prop:=∀ x t,R=.ok x t->t <:+ T/\P x/\sz x+t.length<=b
section
variable {T:List Tk}
theorem Gb.bind {α β:Type}{b1 b:Nat}{P:α->Prop}{sz:α->Nat}{Q:β->Prop}{c:β->Nat}{R:Rs α}{f:α->List Tk->Rs β}(h:Gb T b1 P sz R)(d:∀ x t,t <:+ T->P x->sz x+t.length<=b1->Gb T b Q c (f x t)):Gb T b Q c (R.bind f):=by
 cases R using Rs.on with
 | out=>intro x t e;cases e
 | bad e a=>intro x t e;cases e
 | ok x t =>
  obtain⟨h1,h2,g⟩:=h x t rfl;exact d x t h1 h2 g
theorem Gb.bad {α:Type}{b e a:Nat}{P:α->Prop}{sz:α->Nat}:Gb T b P sz (.bad e a:Rs α):=λx t h=>by cases h
theorem Gb.out {α:Type}{b:Nat}{P:α->Prop}{sz:α->Nat}:Gb T b P sz (.out:Rs α):=λx t h=>by cases h
theorem Gb.ok {α:Type}{b:Nat}{P:α->Prop}{sz:α->Nat}{x:α}{t:List Tk}(h:t <:+ T)(c:P x)(a:sz x+t.length<=b):Gb T b P sz (.ok x t):=λy u e=>by
 obtain⟨f,d⟩:=Rs.ok_inj e;subst f d;exact⟨h,c,a⟩
theorem ji (b:∀ y,y ∈ T->tkG y)(s:List UInt8){ts:List Tk}(h:ts <:+ T):Gb T ts.length (λa=>a<=2000) (λ_=>1) (eD s ts):=by
 cases ts with
 | nil=>exact Gb.out
 | cons x r =>
  simp only[eD];split
  ·exact Gb.ok ((Hz x r).trans h) (b x (h.mem (by simp))).2.2.2 (by simp;omega)
  ·exact Gb.bad
theorem wS (a:∀ y,y ∈ T->tkG y)(k:Nat){ts:List Tk}(h:ts <:+ T):Gb T ts.length tkG (λ_=>1) (hH k ts):=by
 cases ts with
 | nil=>exact Gb.out
 | cons x r =>
  simp only[hH];split
  ·exact Gb.ok ((Hz x r).trans h) (a x (h.mem (by simp))) (by simp;omega)
  ·exact Gb.bad
theorem kg (b:∀ y,y ∈ T->tkG y)(s:List UInt8)(o:Nat){ts:List Tk}(h:ts <:+ T):Gb T ts.length (λa=>a<=2000) (λ_=>1) (ej s o ts):=by
 cases ts with
 | nil=>exact Gb.out
 | cons x r =>
  simp only[ej];split
  ·split
   ·exact Gb.bad
   ·exact Gb.ok ((Hz x r).trans h) (b x (h.mem (by simp))).2.2.2 (by simp;omega)
  ·exact Gb.bad
variable {rec:Rdr}
theorem sJ (f:∀ y,y ∈ T->tkG y)(H:∀ row o q ts,ts <:+ T->Gb T ts.length Ex.gd Ex.sz (rec row o q ts)):∀ (j:Nat) (o q:Nat) (a:Fs) (ts:List Tk) (b:Nat),ts <:+ T->a.gd->a.size+ts.length<=b->Gb T b Fs.gd Fs.size (jy rec j o q a ts)
 | 0,o,q,a,ts,b,h,c,d=>Gb.ok h c d
 | j+1,o,q,a,ts,b,h,c,d=>by
  unfold jy;refine(ji f _ h).bind λ_ t1 h1 _ i=>(H _ _ _ _ h1).bind λe t2 h2 p2 g=>?_;exact sJ f H j o q _ t2 b h2 (kR c p2) (by rw[kY];omega)
theorem vI (b:∀ y,y ∈ T->tkG y)(H:∀ row o q ts,ts <:+ T->Gb T ts.length Ex.gd Ex.sz (rec row o q ts))(a o q:Nat){ts:List Tk}(h:ts <:+ T):Gb T (ts.length-1) Fs.gd Fs.size (iK rec a o q ts):=by
 unfold iK;refine(kg b _ _ h).bind λ_ t1 h1 _ j=>(H _ _ _ _ h1).bind λe t2 h2 p2 c=>?_;refine(sJ b H _ _ _ _ t2 t1.length h2 p2 c).bind λks t3 f p3 i=>?_;exact(ji b _ f).bind λ_ t4 d _ g=>Gb.ok d p3 (by omega)
theorem xN (b:∀ y,y ∈ T->tkG y)(H:∀ row o q ts,ts <:+ T->Gb T ts.length Ex.gd Ex.sz (rec row o q ts))(o q:Nat){ts:List Tk}(h:ts <:+ T):Gb T ts.length Ex.gd Ex.sz (gM rec o q ts):=by
 unfold gM;refine(kg b _ _ h).bind λa t1 h1 p1 n=>(H _ _ _ _ h1).bind λx t2 h2 p2 m=>?_;refine(ji b _ h2).bind λ_ t3 f _ l=>(H _ _ _ _ f).bind λy t4 e p4 k=>?_;refine(ji b _ e).bind λ_ t5 h5 _ j=>(H _ _ _ _ h5).bind λz g d c i=>?_;refine Gb.ok d (Ex.gd_mk (by omega) (by omega) (by simp) p1 (kR (kR p2 p4) c)) ?_;rw[Ex.sz_mk,kY,kY];show x.sz+y.sz+z.sz+1+_<=_;omega
theorem ww (f:∀ y,y ∈ T->tkG y)(H:∀ row o q ts,ts <:+ T->Gb T ts.length Ex.gd Ex.sz (rec row o q ts)):∀ (m:Nat) (o q:Nat) (a:Fs) (ts:List Tk) (b:Nat),ts <:+ T->a.gd->a.size+ts.length<=b->Gb T b Fs.gd Fs.size (jW rec m o q a ts)
 | 0,o,q,a,ts,b,h,c,d=>Gb.out
 | m+1,o,q,a,[],b,h,c,d=>Gb.out
 | m+1,o,q,a,x::r,b,h,c,d=>by
  have _:=f;unfold jW;simp only;split
  ·simp only[G5] at d;refine(H _ _ _ _ ((Hz x r).trans h)).bind λe t2 h2 p2 g=>?_;exact ww f H m o q _ t2 b h2 (kR c p2) (by rw[kY];omega)
  ·exact Gb.ok h c d
theorem EK (b:∀ y,y ∈ T->tkG y)(H:∀ row o q ts,ts <:+ T->Gb T ts.length Ex.gd Ex.sz (rec row o q ts))(m o q:Nat){ts:List Tk}(h:ts <:+ T):Gb T ts.length Fs.gd Fs.size (nf rec m o q ts):=by
 cases ts with
 | nil=>exact Gb.out
 | cons x r =>
  unfold nf;simp only;split
  ·exact Gb.ok h trivial (by simp[Fs.size])
  ·exact(H _ _ _ _ h).bind λe t1 h1 p1 a=>ww b H m o q _ t1 _ h1 p1 a
theorem EL (b:∀ y,y ∈ T->tkG y)(H:∀ row o q ts,ts <:+ T->Gb T ts.length Ex.gd Ex.sz (rec row o q ts))(m o q:Nat){ts:List Tk}(h:ts <:+ T):Gb T ts.length Ex.gd Ex.sz (iV rec m o q ts):=by
 cases ts with
 | nil=>exact Gb.out
 | cons x r =>
  have c:=b x (h.mem (by simp));have d:r <:+ T:=(Hz x r).trans h;unfold iV;simp only;split
  ·exact Gb.ok d (Ex.gd_mk (by omega) (by omega) c.2.2.1 c.2.2.2 trivial) (by rw[Ex.sz_mk];simp[Fs.size];omega)
  ·split
   ·exact Gb.ok d (Ex.gd_mk (by omega) (by omega) (by simp) c.2.2.2 trivial) (by rw[Ex.sz_mk];simp[Fs.size];omega)
   ·split
    ·exact(vI b H 1 o q d).bind λks t h1 p1 e=>Gb.ok h1 (Ex.gd_mk (by omega) (by omega) (by simp) c.2.2.2 p1) (by rw[Ex.sz_mk];simp;omega)
    ·refine(kg b _ _ h).bind λa t1 h1 p1 e=>(EK b H m _ q h1).bind λks t2 h2 p2 i=>(ji b _ h2).bind λ_ t3 f _ g=>?_;exact Gb.ok f (Ex.gd_mk (by omega) (by omega) (by simp) p1 p2) (by rw[Ex.sz_mk];omega)
theorem Az (c:∀ y,y ∈ T->tkG y)(H:∀ row o q ts,ts <:+ T->Gb T ts.length Ex.gd Ex.sz (rec row o q ts))(m:Nat)(s:List UInt8)(k o q:Nat)(w:k<=100){ts:List Tk}(h:ts <:+ T):Gb T ts.length Ex.gd Ex.sz (gu rec m s k o q ts):=by
 cases ts with
 | nil=>exact Gb.out
 | cons x r =>
  unfold gu;simp only;split
  ·exact Gb.bad
  ·refine(kg c _ _ h).bind λa t1 h1 p1 v=>(wS c _ h1).bind λy t2 h2 p2 u=>(ji c _ h2).bind λ_ t3 i _ t=>?_;refine(EL c H m _ _ i).bind λe t4 g p4 p=>(ji c _ g).bind λ_ t5 h5 _ n=>(H _ _ _ _ h5).bind λb j f d l=>?_;refine Gb.ok f (Ex.gd_mk (by omega) (by omega) p2.2.2.1 p1 (kR p4 d)) ?_;rw[Ex.sz_mk,kY];show e.sz+b.sz+1+_<=_;omega
theorem DD (d:∀ y,y ∈ T->tkG y)(H:∀ row o q ts,ts <:+ T->Gb T ts.length Ex.gd Ex.sz (rec row o q ts))(m o q:Nat){ts:List Tk}(h:ts <:+ T):Gb T ts.length Ex.gd Ex.sz (fv rec m o q ts):=by
 cases ts with
 | nil=>exact Gb.out
 | cons x r =>
  have b:=d x (h.mem (by simp));have f:r <:+ T:=(Hz x r).trans h;unfold fv;simp only;split
  ·exact Gb.ok f (Ex.gd_mk b.1 b.2.1 (by simp) b.2.2.2 trivial) (by rw[Ex.sz_mk];simp[Fs.size];omega)
  ·split
   ·exact Gb.ok f (Ex.gd_mk (by omega) (by omega) b.2.2.1 b.2.2.2 trivial) (by rw[Ex.sz_mk];simp[Fs.size];omega)
   ·split
    ·exact Gb.ok f (Ex.gd_mk (by omega) (by omega) (by simp) b.2.2.2 trivial) (by rw[Ex.sz_mk];simp[Fs.size];omega)
    ·split
     ·exact Gb.ok f (Ex.gd_mk (by omega) (by omega) (by simp) b.2.2.2 trivial) (by rw[Ex.sz_mk];simp[Fs.size];omega)
     ·split
      ·exact(wS d _ f).bind λy t h1 p1 j=>Gb.ok h1 (Ex.gd_mk p1.1 p1.2.1 (by simp) b.2.2.2 trivial) (by rw[Ex.sz_mk];simp[Fs.size];omega)
      ·split
       ·rw[zT];unfold Fr;exact(kg d _ _ h).bind λ_ t1 h1 _ j=>(H _ _ _ _ h1).bind λe t2 h2 p2 n=>(ji d _ h2).bind λ_ t4 k _ l=>Gb.ok k p2 (by omega)
       ·split
        ·exact xN d H o q h
        ·split
         ·rename_i i
          have g:=Hi i;have c:∀ z ∈ gX,z.2.1<=100:=by decide
          have a:=c _ g;simp only at a;exact(vI d H _ o q f).bind λks t h1 p1 j=>Gb.ok h1 (Ex.gd_mk (by omega) (by omega) (by simp) b.2.2.2 p1) (by rw[Ex.sz_mk];simp;omega)
         ·split
          ·rename_i i
           have g:=Hi i;have c:∀ z ∈ gL,z.2<=100:=by decide
           have a:=c _ g;simp only at a;exact Az d H m _ _ o q a h
          ·exact Gb.bad
theorem wD (c:∀ y,y ∈ T->tkG y)(H:∀ row o q ts,ts <:+ T->Gb T ts.length Ex.gd Ex.sz (rec row o q ts))(s:List UInt8)(k:Int)(row o q:Nat){ts:List Tk}(h:ts <:+ T):Gb T ts.length Ex.gd Ex.sz (fX rec s k row o q ts):=by
 cases ts with
 | nil=>exact Gb.out
 | cons x r =>
  have a:=c x (h.mem (by simp));have b:r <:+ T:=(Hz x r).trans h;unfold fX;simp only;split
  ·split
   ·exact Gb.bad
   ·refine(H _ _ _ _ b).bind λe t2 h2 p2 d=>Gb.ok h2 (Ex.gd_mk (by omega) (by omega) (by simp) a.2.2.2 p2) ?_;rw[Ex.sz_mk];show e.sz+1+_<=_;simp only[G5];omega
  ·exact H _ _ _ _ h
theorem qr (i:∀ y,y ∈ T->tkG y)(H:∀ row o q ts,ts <:+ T->Gb T ts.length Ex.gd Ex.sz (rec row o q ts)):∀ (m row o q:Nat) (left:Ex) (ts:List Tk) (b:Nat),ts <:+ T->left.gd->left.sz+ts.length<=b->Gb T b Ex.gd Ex.sz (fR rec m row o q left ts)
 | 0,row,o,q,left,ts,b,h,f,g=>Gb.out
 | m+1,row,o,q,left,[],b,h,f,g=>Gb.out
 | m+1,row,o,q,left,x::r,b,h,f,g=>by
  have j:=i x (h.mem (by simp));have k:r <:+ T:=(Hz x r).trans h;unfold fR;simp only;split
  ·exact Gb.ok h f g
  ·refine(H _ _ _ _ k).bind λe t2 h2 p2 l=>?_;simp only[G5] at g;have d:∀ (z:Int),(⟨z,0,[],(x.a:Nat),(one left).snoc e⟩:Ex).gd:=λz=>Ex.gd_mk (by omega) (by omega) (by simp) j.2.2.2 (kR f p2);have c:∀ (z:Int),(⟨z,0,[],(x.a:Nat),(one left).snoc e⟩:Ex).sz+t2.length<=b:=λz=>by
    rw[Ex.sz_mk,kY];show left.sz+e.sz+1+_<=_;omega
   split
   ·exact Gb.ok h2 (d _) (c _)
   ·exact qr i H m row o q _ t2 b h2 (d _) (c _)
end
theorem vW {T:List Tk}(a:∀ y,y ∈ T->tkG y):∀ (n row o q:Nat) (ts:List Tk),ts <:+ T->Gb T ts.length Ex.gd Ex.sz (fL n row o q ts)
 | 0,row,o,q,ts,h=>Gb.out
 | n+1,row,o,q,ts,h=>by
  have H:=vW a n;unfold fL;split
  ·exact wD a H _ _ _ _ _ h
  ·split
   ·exact wD a H _ _ _ _ _ h
   ·split
    ·exact DD a H n o q h
    ·exact(H _ _ _ _ h).bind λl t h1 p1 b=>qr a H n row o q l t _ h1 p1 b
theorem qC {k:Nat}{t:List UInt8}{a:Nat}{x:Tk}(h:jO k t a=.inr x):-9223372036854775808<=x.n/\x.n<=9223372036854775807/\x.t.length<=t.length:=by
 unfold jO at h;split at h
 ·unfold jz at h
  repeat' split at h
  all_goals first|(injection h with h;subst h;exact⟨by simp,by simp,GC _⟩)|cases h
 ·unfold kK at h;cases b:JG t with
  | ok v =>
   rw[b] at h;have c:=Go.Lib.atoiAll_bounds b;simp only at h;split at h
   ·cases h
   ·injection h with h
    subst h;exact⟨c.1,c.2,by simp⟩
  | _=>rw[b] at h;cases h
 ·unfold pL at h;split at h
  all_goals first|(injection h with h;subst h;exact⟨by simp,by simp,GC _⟩)|cases h
 ·cases h
theorem AO (k:Nat)(t:List UInt8)(a p:Nat)(l:List UInt8)(ts:List Tk)(h:eZ k t a p l=.inr ts)(g:t.length+l.length<=2000):∀ x,x ∈ ts->-9223372036854775808<=x.n/\x.n<=9223372036854775807/\x.t.length<=2000:=by
 induction l generalizing k t a p ts with
 | nil =>
  intro x b;rcases fA h with ⟨rfl,h1⟩|⟨j,y,i,e,h1,h2⟩
  ·injection h1 with h1
   subst h1;simp at b;subst b;exact⟨by simp,by simp,by simp⟩
  ·injection h1 with h1
   subst h1 h2;simp at b;rcases b with rfl|rfl
   ·have:=qC e
    simp only[IF] at g;exact⟨this.1,this.2.1,by omega⟩
   ·exact⟨by simp,by simp,by simp⟩
 | cons c r d =>
  simp only[G5] at g;cases f:tks k t c.toNat
  ·rw[gj f] at h;rcases fA h with ⟨rfl,h1⟩|⟨j,y,i,e,h1,h2⟩
   ·exact d _ _ _ _ _ h1 (by simp;omega)
   ·subst h2;intro x b;rcases List.mem_cons.1 b with rfl|b
    ·have:=qC e
     exact⟨this.1,this.2.1,by omega⟩
    ·exact d _ _ _ _ _ h1 (by simp;omega) x b
  ·rw[fV f] at h;exact d _ _ _ _ _ h (by simp;omega)
theorem Fs.len_size:∀ (x:Fs),x.len<=x.size
 | ⟨GA⟩=>GC _
 | ⟨GB ⟨k,n,nm,a,ks,r⟩⟩=>by have:=Fs.len_size r;simp only[Fs.len,Fs.size];omega
theorem Fs.gd_all:∀ {x:Fs},x.gd->x.size<=100000000->x.short/\x.rng/\x.plc
 | ⟨GA⟩,h,b=>⟨trivial,trivial,trivial⟩
 | ⟨GB ⟨k,n,nm,a,ks,r⟩⟩,h,b=>by
  simp only[Fs.size] at b;obtain⟨h1,h2,f,e,h5,d,c⟩:=h;obtain⟨a1,a2,a3⟩:=Fs.gd_all d (by omega);obtain⟨b1,b2,b3⟩:=Fs.gd_all c (by omega)
  have:=Fs.len_size ks
  exact⟨⟨by unfold GY;omega,by omega,a1,b1⟩,⟨h1,h2,a2,b2⟩,⟨e,by omega,a3,b3⟩⟩
theorem Br {s:List UInt8}{x:Ex}{t:List Tk}(h:fZ s=.ok x t):x.gd/\x.sz<=2001:=by
 obtain⟨a,E,d,h1,h2,i,g,h5⟩:=uD h;have e:iy s=.inr (a++[E]):=by rw[uk d];exact h1
 have c:=lY e;have f:∀ y,y ∈ a++[E]->tkG y:=λy b=>by
  have a1:=AO _ _ _ _ _ _ h1 (by simpa using d) y b;have a2:=c.2.2.2.2.2 y b;exact⟨a1.1,a1.2.1,a1.2.2,by omega⟩
 obtain⟨_,g1,g2⟩:=vW f 30000 1 0 0 _ (List.suffix_refl _) x [E] h5;refine⟨g1,?_⟩
 have:=c.2.2.1
 omega
structure Ex.okT (x:Ex):Prop where
 fit:x.fit
 a0:0<=x.a
 a1:x.a<=2000
 plc:x.kids.plc
 size:x.kids.size<=2000
theorem qn {s:List UInt8}{x:Ex}{t:List Tk}(h:fZ s=.ok x t):x.okT:=by
 obtain⟨g,a⟩:=Br h;have a:x.kids.size+1<=2001:=a;obtain⟨h1,h2,d,c,h5,b,_⟩:=g;obtain⟨a1,a2,a3⟩:=Fs.gd_all b (by omega)
 have:=Fs.len_size x.kids
 exact⟨⟨by unfold GY;omega,a1,by omega,h1,h2,a2⟩,c,h5,a3,by omega⟩
structure Wo where
 op:Nat
 a:Nat
 b:Nat
structure Em where
 ws:List Wo
 cs:List Int
 ns:List (List UInt8)
 ks:List Int
 dp:Nat
def Em.lay (s:Em)(op a b:Nat):Em:=⟨s.ws++[⟨op,a,b⟩],s.cs,s.ns,s.ks,s.dp⟩
def Em.push (s:Em)(op a b u:Nat):Em:=⟨s.ws++[⟨op,a,b⟩],s.cs,s.ns,s.ks,max s.dp (u+1)⟩
def Em.kc (s:Em)(n:Int):Em:=⟨s.ws,if n ∈ s.cs then s.cs else s.cs++[n],s.ns,s.ks,s.dp⟩
def Em.kn (s:Em)(x:List UInt8):Em:=⟨s.ws,s.cs,if x ∈ s.ns then s.ns else s.ns++[x],s.ks,s.dp⟩
def Em.con (s:Em)(n:Int)(kd u:Nat):Em:=(s.kc n).push 1 (s.cs.idxOf n) kd u
def Wo.to (x:Wo)(n:Nat):Wo:=if x.op=17 then ⟨x.op,x.a,n⟩ else ⟨x.op,n,x.b⟩
def Em.land (s:Em)(i:Nat):Em:=⟨s.ws.modify i (λx=>x.to s.ws.length),s.cs,s.ns,s.ks,s.dp⟩
def Em.cel (s:Em)(i:Nat)(k:Int):Em:=⟨s.ws,s.cs,s.ns,s.ks.set i k,s.dp⟩
def Em.fork (s:Em)(op:Nat)(f g:Em->Em):Em:=(g (((f (s.lay op 0 0)).lay 13 0 0).land s.ws.length)).land (f (s.lay op 0 0)).ws.length
def tn (n:Int):Int:=if n=1\/n=2 then 2 else if n=10 then 3 else 1
def tE (n:Int):Int:=if n=1\/n=2 then 2 else 1
def kdN (k n:Int)(ks:List Int):Int :=
 if k=1\/k=6\/(8<=k/\k<=12) then 1 else if k=3\/k=5 then 3 else if k=19 then ks.getD 1 0 else if k=26 then ks.getD 0 0 else if k=20 then tn n else if k=21 then tE n else 2
def kdF:Fs->List Int
 | ⟨GA⟩=>[]
 | ⟨GB ⟨k,n,_,_,ks,r⟩⟩=>kdN k n (kdF ks)::kdF r
def kdE (e:Ex):Int:=kdN e.k e.n (kdF e.kids)
abbrev Tr:=Nat->Nat->Em->Em
def nH:List Tr->Nat->Nat->Nat->Em->Em
 | [],_,_,_,s=>s
 | t::r,i,ar,u,s=>nH r (i+1) ar u (t ar (u+i) s)
def jv (k:Int):Nat:=if k=6 then 4 else if k=7 then 5 else if k=8 then 6 else if k=9 then 7 else if k=10 then 8 else if k=11 then 9 else if k=12 then 10 else if k=22 then 20 else 22
def opr (k n:Int)(nm:List UInt8)(a:List Int)(s:Em):Em :=
 if k=13 then s.lay 11 0 (a.getD 0 0).toNat else if k=14 then (s.lay 11 0 (a.getD 0 0).toNat).lay 5 0 0 else if k=15 then s.lay 12 0 0 else if k=16 then s.lay 12 0 1
 else if k=20 then s.lay 16 n.toNat 0 else if k=23 then (s.kn nm).lay 21 (s.ns.idxOf nm) 0 else if k=25 then s.lay 23 a.length 0 else s.lay (jv k) 0 0
def iF (h:Nat):List Int->Nat->Em->Em
 | [],_,s=>s
 | l::r,i,s=>iF h r (i+1) (if l=(h:Int) then s.lay 19 i 0 else s)
def bdy (lv:List Int)(t:Tr):Tr:=λar u s=>t (ar+1) u (iF (ar+1) lv 0 s)
def yk (lv:List Int)(t:Tr)(op:Nat)(v:Int):Tr:=λar u s =>
 s.fork 24 (λx=>(((bdy lv t ar u x).lay op s.ws.length 0).lay 25 0 0).con v 2 u) (λx=>x.con (1-v) 2 u)
def pM (lv:List Int)(t:Tr)(f:Nat->Em->Em):Tr:=λar u s =>
 ((f s.ws.length (bdy lv t ar u (s.lay 24 0 0))).lay 13 s.ws.length 0).land s.ws.length
def qua (lv:List Int)(n:Int)(a t:Tr):Tr:=λar u s =>
 if n=1 then yk lv t 15 0 ar u (a ar u s) else if n=2 then yk lv t 14 1 ar u (a ar u s)
 else if n=3 then pM lv t (λg x=>((x.lay 14 g 0).con 1 1 (u+1)).lay 6 0 0) ar (u+1) ((a ar u s).con 0 1 u)
 else if n=4 then pM lv t (λ_ x=>x.lay 6 0 0) ar (u+1) ((a ar u s).con 0 1 u)
 else (pM lv t (λ_ x=>x.lay 26 (n-5).toNat 0) ar (u+2) (((a ar u s).con 0 1 u).con 0 2 (u+1))).lay 27 0 0
abbrev noT:Tr:=λ_ _ s=>s
def prt (lv:List Int)(k n:Int)(nm:List UInt8)(a:List Int)(T:List Tr):Tr:=λar u s =>
 if k=1 then s.con n 1 u else if k=2 then s.con n 2 u else if k=3 then (s.kc n).push 2 (s.cs.idxOf n) 0 u else if k=5 then s.push 3 n.toNat 0 u
 else if k=17 then (T.getD 0 noT ar u s).fork 14 (T.getD 1 noT ar u) (λx=>x.con 0 2 u)
 else if k=18 then (T.getD 0 noT ar u s).fork 15 (T.getD 1 noT ar u) (λx=>x.con 1 2 u)
 else if k=19 then (T.getD 0 noT ar u s).fork 14 (T.getD 1 noT ar u) (T.getD 2 noT ar u)
 else if k=26 then ((T.getD 0 noT ar u ((s.cel n.toNat (a.getD 0 0)).lay 17 n.toNat 0)).lay 18 n.toNat 0).land s.ws.length
 else if k=21 then qua lv n (T.getD 0 noT) (T.getD 1 noT) ar u s
 else opr k n nm a (nH T 0 ar u s)
def emF (lv:List Int):Fs->List Tr
 | ⟨GA⟩=>[]
 | ⟨GB ⟨k,n,nm,_,ks,r⟩⟩=>prt lv k n nm (kdF ks) (emF lv ks)::emF lv r
def emE (lv:List Int)(e:Ex):Tr:=prt lv e.k e.n e.nm (kdF e.kids) (emF lv e.kids)
def em0 (lv:List Int):Em:=⟨[],[],[],Hk lv.length 1,0⟩
def emA (lv:List Int)(e:Ex):Em:=(emE lv e 0 0 (em0 lv)).lay 0 0 0
def Em.mes (s:Em):Nat:=s.ws.length+s.cs.length+s.ns.length
theorem Em.mes_lay (s:Em)(op a b:Nat):(s.lay op a b).mes=s.mes+1:=by simp[Em.mes,Em.lay];omega
theorem Em.mes_push (s:Em)(op a b u:Nat):(s.push op a b u).mes=s.mes+1:=by simp[Em.mes,Em.push];omega
theorem Em.mes_kc (s:Em)(n:Int):(s.kc n).mes<=s.mes+1:=by simp only[Em.mes,Em.kc];split<;>simp<;>omega
theorem Em.mes_kn (s:Em)(n:List UInt8):(s.kn n).mes<=s.mes+1:=by simp only[Em.mes,Em.kn];split<;>simp<;>omega
theorem Em.mes_con (s:Em)(n:Int)(kd u:Nat):(s.con n kd u).mes<=s.mes+2:=by
 unfold Em.con;rw[Em.mes_push]
 have:=s.mes_kc n
 omega
theorem Em.mes_land (s:Em)(i:Nat):(s.land i).mes=s.mes:=by simp[Em.mes,Em.land]
def okN (nc:Nat)(k n:Int)(nm:List UInt8)(len:Nat):Prop:=eg k n nm len=true/\(k=5->n<=3)/\(k=26->0<=n/\n<(nc:Int))/\(-9223372036854775808<=n/\n<=9223372036854775807)
def okF (nc:Nat):Fs->Prop
 | ⟨GA⟩=>True
 | ⟨GB ⟨k,n,nm,_,ks,r⟩⟩=>okN nc k n nm ks.len/\okF nc ks/\okF nc r
def okE (nc:Nat)(e:Ex):Prop:=okN nc e.k e.n e.nm e.kids.len/\okF nc e.kids
end Go.Proofs.YtkhgahljbpmfaaaGreatDoor
