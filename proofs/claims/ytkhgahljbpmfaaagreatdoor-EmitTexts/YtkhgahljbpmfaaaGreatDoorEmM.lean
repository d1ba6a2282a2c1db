import Derived.Test.YtkhgahljbpmfaaaGreatDoorRdqP
import Derived.Defers
import Derived.Recover
import Derived.Laws.Pointers
import Derived.Lib.AtoiAllCases
set_option maxRecDepth 100000
set_option maxHeartbeats 8000000
namespace Go.Proofs.YtkhgahljbpmfaaaGreatDoor
open Option renaming none->FE,some->FF
open Nat renaming le_refl->FG,le_trans->Gw,le_of_lt->GU,sub_self->I5
open Go.Proofs.Tryz renaming prog->FH,results105->Hi,results204->IK
open Go renaming World->FI,lt_of_block->FJ,bodyPost_ret->FL,heap_alloc_new->FM,Value->FO,heap_setCell_other->FU,Calls->FW,maxLen->F9,cell_of_row->Gn,TypeId->Gu,frozen_of_row->GS,Ending->Hk
open List renaming getElem?_eq_getElem->FN,length_append->Gf,length_cons->Gg,getElem?_eq_none->Gm,mem_of_find?_eq_some->Gr,replicate->Gt,suffix_cons->GI,getElem?_map->GM,not_mem_nil->GW,mem_cons->GY,mem_of_getElem?->G1,getElem_mem->G4,length_nil->Hj,cons_append->Hr,find?_some->Hw,take_append_drop->IN,take_length->IZ,take_of_length_le->Jm
open Go.RowKit renaming Below->FP,intOf->Gq,wrap64->Gx
open Go.Lib renaming hid->FQ,parseUint10->Iq,atoiAll->IU
open Go.RowKit.Below renaming refl->FS,heap_alloc->FT
open Bool renaming and_eq_true->Gi,not_eq_true->Hm,or_eq_true->Hx
open Go.World renaming setCell->F7,alloc->GK
open Exists renaming intro->Gc
open Go.IntKind renaming wrap_i64->GQ
open UInt8 renaming toNat_lt->Hb
open Go.ByteArray renaming toList_eq->Hv
open Or renaming inl->Hz
open UInt8.toNat renaming inj->Ig
open List.cons renaming injEq->Ja
open Go.ChangeShapes Go.WideShapes Go.ChangeAt Go.RowKit
set_option linter.unusedVariables false
set_option linter.unusedSimpArgs false
def Dv (rec:Rdr)(m:Nat):Prop :=
 ∀ (w:FI) (rb:Nat) (all:List Tk) (o q:Nat) (st:Sq),(∀ x,x ∈ all->iq x)->QS w rb all o q st->Nou (iO rec m o q) st->FW FH 204 #[.pointer (FF ⟨rb,0,FE⟩)] w (f8 rb all o q w st (iO rec m o q))
theorem oO {f:List Tk->Rs Ex}{x:Tk}{r:List Tk}{e a:Nat}(X:Ex)(h:f (x::r)=.bad e a):Qd f (.inr (x::r)) X (.inl (e,a)):=⟨by simp only[onw];rw[h];rfl,λts y t c b=>by cases c;rw[h] at b;cases b⟩
theorem Bc {y:Tk}{r:List Tk}(h:y.k=2):Qd (gR 2) (.inr (y::r)) y (.inr r):=⟨by simp[onw,gR,h,stp],λts z t b a=>by cases b;simp[gR,h] at a;exact a.1⟩
theorem QS.downQ {w:FI}{rb o q:Nat}{all:List Tk}{st:Sq}(h:QS w rb all o (q+1) st) :
  ∃c:Int,w.cell? ⟨rb,3,FE⟩=FF (.int .i64 c)/\(∀ j,w.frozen? ⟨rb,j,FE⟩=false)/\QS (w.setCell ⟨rb,3,FE⟩ (.int .i64 (Gx (c-1)))) rb all o q st:=by
 match st,h with
 | .inl (er,a),⟨i,o',c,h1,h2,b⟩ =>
  obtain⟨_,_,_,_,_,_,_,_,_,_,c3,_,_,d⟩:=h1.next (FN h2);exact⟨c,c3,d,i,o',_,h1.set.2.2.1 _,h2,b⟩
 | .inr [],⟨i,pl,h1,h2,b⟩=>exact absurd rfl b.1.ne
 | .inr (x::r),⟨i,pl,h1,h2,b⟩ =>
  obtain⟨f,_,g⟩:=pY h2;obtain⟨_,_,_,_,_,_,_,_,_,_,c3,_,_,d⟩:=h1.next f;refine⟨_,c3,d,i,pl,?_,h2,b.1,b.2.1,by have:=b.2.2;omega⟩;have e:Gx ((((q+1:Nat):Int))-1)=((q:Nat):Int):=by have:=b.2.2;unfold Gx;omega
  rw[e];exact h1.set.2.2.1 _
theorem BI {rec:Rdr}(R:lN rec){m:Nat}(RS:Dv rec m){w:FI}{rb o q n:Nat}{all:List Tk}{x:Tk}{r:List Tk}(TI:∀ x,x ∈ all->iq x)(aM:x.t≠[])(br:n<6)(h:QS w rb all o q (.inr (x::r)))(hn:Nou (ge rec m x.t (n+1) o q) (.inr (x::r))) :
  FW FH 164 #[.pointer (FF ⟨rb,0,FE⟩),.int .i64 n,.int .i64 (x.a:Nat)] w (f8 rb all o q w (.inr (x::r)) (ge rec m x.t (n+1) o q)):=by
 have bq:=h.lt;have K0:dX rb w (w.alloc exZ):=(dX.refl rb w).alloc _;have Z0:(w.alloc exZ).heap[w.heap.size]?=FF exZ:=FM w _;have h0:=h.alloc exZ;have bp:w.heap.size<(w.alloc exZ).heap.size:=by simp
 have ax:=h.le;obtain⟨i,g,cap,L,hg,hi,bA,aZ,hL,hm,d0,d1,d2,d3,d4,-,hf⟩:=h0.ok;clear d0 d1 d4 hm;by_cases hA:o=64\/q=4
 ·have EQ:ge rec m x.t (n+1) o q (x::r)=.bad 121 x.a:=by
   unfold ge;by_cases K:q=4
   ·simp[K]
   ·have J:o=64:=by rcases hA with h|h;exact h;exact absurd h K
    simp[K,ej,J,Rs.bind]
  have c1:FW FH 29 #[.pointer (FF ⟨rb,0,FE⟩),.int .i64 121] (w.alloc exZ) λr' w'=>r'=.returned (.tuple #[])/\QS w' rb all o q (.inl (121,x.a))/\dX rb (w.alloc exZ) w':=jA 121 (by decide) h0;have HE:=oO (X:=fI) EQ;clear EQ hn h0;by_cases J:o=64
  ·subst J;clear hA;go_enter Tryz.func164,Tryz.ntmps164;go_wp2_with fail;refine c1.mono ?_;rintro e w1 ⟨rfl,h1,k1⟩;clear c1 d2 d3 hf;have Z1:=k1.blk Z0 (by have:=K0.size;omega);have K1:=K0.trans k1;clear K0 Z0;have KE:=K1.set5 (b:=w.heap.size) (by omega) (.int .i64 0) (.int .i64 0) (stv []) (.slice FE 0 0) (.int .i64 0);have RE:=h1.set5 (b:=w.heap.size) (by omega) (.int .i64 0) (.int .i64 0) (stv []) (.slice FE 0 0) (.int .i64 0);have M:=eS (.int .i64 0) (.int .i64 0) (stv []) (.slice FE 0 0) (.int .i64 0) Z1;obtain⟨z0,z1,z2,z3,z4,zf⟩:=dT Z1;obtain⟨u0,u1,u2,u3,u4,-⟩:=dT M;have B:=HE;clear M K1 Z1 h1;go_wp2;exact FL (v:=exV fI FE 0) (by simp[results,Tryz.results164,go_sem,u0,u1,u2,u3,u4,exV,fI,Fs.len]) rfl ⟨_,_,_,_,rfl,Sl.nil _ _ _,RE,KE,B⟩
  ·have K:q=4:=by rcases hA with h|h;exact absurd h J;exact h
   have aY:((o:Int)==64)=false:=by simp;omega
   subst K;clear hA J;go_enter Tryz.func164,Tryz.ntmps164;go_wp2_with fail;refine c1.mono ?_;rintro e w1 ⟨rfl,h1,k1⟩;clear c1 d2 d3 hf;have Z1:=k1.blk Z0 (by have:=K0.size;omega);have K1:=K0.trans k1;clear K0 Z0;have KE:=K1.set5 (b:=w.heap.size) (by omega) (.int .i64 0) (.int .i64 0) (stv []) (.slice FE 0 0) (.int .i64 0);have RE:=h1.set5 (b:=w.heap.size) (by omega) (.int .i64 0) (.int .i64 0) (stv []) (.slice FE 0 0) (.int .i64 0);have M:=eS (.int .i64 0) (.int .i64 0) (stv []) (.slice FE 0 0) (.int .i64 0) Z1;obtain⟨z0,z1,z2,z3,z4,zf⟩:=dT Z1;obtain⟨u0,u1,u2,u3,u4,-⟩:=dT M;have B:=HE;clear M K1 Z1 h1;go_wp2;exact FL (v:=exV fI FE 0) (by simp[results,Tryz.results164,go_sem,u0,u1,u2,u3,u4,exV,fI,Fs.len]) rfl ⟨_,_,_,_,rfl,Sl.nil _ _ _,RE,KE,B⟩
 ·have ho:o<64:=by have:=ax.1;omega
  have hq:q<4:=by have:=ax.2.1;omega
  have aY:((o:Int)==64)=false:=by simp;omega
  have b4:((q:Int)==4)=false:=by simp;omega
  have EQ:∀ ts,(.inr (x::r):Sq)=.inr ts->ge rec m x.t (n+1) o q ts=(λts=>(ej x.t o ts).bind λa t1=>(gR 2 t1).bind λy t2=>(eE [105,110] t2).bind λ_ t3=>(iO rec m (o+1) (q+1) t3).bind λe t4=>(eE [58] t4).bind λ_ t5=>(rec 1 (o+1) (q+1) t5).bind λb t6=>.ok ⟨21,(n:Int)+1,y.t,a,(one e).snoc b⟩ t6) ts:=λts hs=>by
   cases hs;show (if q=4 then _ else _)=_;rw[if_neg (by omega)];rfl
  have HC:Hid (∀ X ao,Qd (λts=>(ej x.t o ts).bind λa t1=>(gR 2 t1).bind λy t2=>(eE [105,110] t2).bind λ_ t3=>(iO rec m (o+1) (q+1) t3).bind λe t4=>(eE [58] t4).bind λ_ t5=>(rec 1 (o+1) (q+1) t5).bind λb t6=>.ok ⟨21,(n:Int)+1,y.t,a,(one e).snoc b⟩ t6) (.inr (x::r)) X ao->Qd (ge rec m x.t (n+1) o q) (.inr (x::r)) X ao):=λX ao q=>q.congr λts hs=>(EQ ts hs).symm;have C0:=Ctx.start (hn.congr EQ);have C1:=C0.step (lP (o:=o) (x:=x) (r:=r) x.t);have h1:=h0.quants (q+1) (by omega);have h2:=h1;rw[show ((q+1:Nat):Int)=(q:Int)+1 by omega] at h2;have e1:onw (ej x.t o) (.inr (x::r))=.inr r:=by simp[onw,ej,stp,show ¬o=64 by omega]
  rw[e1] at C1;have HO:Hid (∀ wx,QS wx rb all o (q+1) (.inr (x::r))->FW FH 104 #[.pointer (FF ⟨rb,0,FE⟩)] wx λe w'=>e=.returned (.tuple #[])/\QS w' rb all (o+1) (q+1) (.inr r)/\dX rb wx w'):=λwx hh=>qB ho aM hh;have k0:=dX.at (rb:=rb) (w.alloc exZ) 3 (.int .i64 ((q:Int)+1));clear EQ hn h0 C0 h1 e1 hA;go_enter Tryz.func164,Tryz.ntmps164;go_upto_region 4 with fail;generalize w.alloc exZ=v0 at *;go_upto_region 5 with fail;generalize v0.setCell ⟨rb,3,FE⟩ (.int .i64 ((q:Int)+1))=w1 at *;clear d2 d3 hf;have Z1:=k0.blk Z0 (by have:=K0.size;omega);have K1:=K0.trans k0;clear K0 Z0;have c2:=HO.out w1 h2;go_wp2_with fail;refine c2.mono ?_;rintro e w2 ⟨rfl,h3,k2⟩;clear c2 HO h2;have Z2:=k2.blk Z1 (by have:=K1.size;omega);have K2:=K1.trans k2;clear K1 Z1;cases r with
  | nil=>exact absurd rfl h3.le.2.2.ne
  | cons y r2 =>
  obtain⟨i3,g3,a4,L3,bx,bv,a1,aR,bF,aO,d0,d1,-,-,-,⟨t0,t1,t2,t3⟩,hf⟩:=h3.ok;have bz:FP w2.heap.size w2 (w2.alloc (.cells #[.int .i64 0,.int .i64 0,.string ⟨#[]⟩,.int .i64 0] 67)):=(FS _ w2).alloc (FG _) _;have af:rb<w2.heap.size:=h3.lt;have ad:g3<w2.heap.size:=by omega
  have aW:=(bz.cell (p:=⟨rb,0,FE⟩) af).trans d0;have aT:=(bz.cell (p:=⟨rb,1,FE⟩) af).trans d1;have u0:=(bz.cell (p:=⟨g3,i3*4,FE⟩) ad).trans t0;have u1:=(bz.cell (p:=⟨g3,i3*4+1,FE⟩) ad).trans t1;have u2:=(bz.cell (p:=⟨g3,i3*4+2,FE⟩) ad).trans t2;have u3:=(bz.cell (p:=⟨g3,i3*4+3,FE⟩) ad).trans t3;have bs:(i3:Int)<(L3:Int):=by omega
  have ap:=jk w2 (.cells #[.int .i64 (y.k:Nat),.int .i64 y.n,stv y.t,.int .i64 (y.a:Nat)] 67);clear bz;go_upto_region 6 with fail;go_cut [7] (λv wx=>∃bt,v=.pointer (FF ⟨bt,0,FE⟩)/\w2.heap.size<=bt/\wx.heap[bt]?=FF (.cells #[.int .i64 (y.k:Nat),.int .i64 y.n,stv y.t,.int .i64 (y.a:Nat)] 67 (0,0))/\FP w2.heap.size w2 wx)
  case first =>
   go_region
   all_goals
    go_wp2;go_meet;exact⟨_,rfl,FG _,ap.1,ap.2⟩
  case rest =>
  obtain⟨bt,rfl,a2,TB,B1⟩:=hcut;clear t0 t1 t2 t3 d0 d1 hf aO aW aT u0 u1 u2 u3 ap;have k3:=dX.ofBelow (rb:=rb) B1;have K:=h3.below B1;have bB:rb<bt:=by have:=h3.lt;omega
  clear h3 B1;have Z3:=k3.blk Z2 (by have:=K2.size;omega);have K3:=K2.trans k3;clear K2 Z2;obtain⟨p0,p1,p2,p3,pf⟩:=Blk.cells4 (o:=λ_=>0) (i:=0) ⟨TB,rfl⟩;by_cases hk:y.k=2
  ·have bk:((y.k:Int)==2)=true:=by simp[hk]
   have aX:((y.k:Int) != 2)=false:=by rw[_root_.bne,bk];rfl
   have C2:=C1.step (Bc hk);have aP:y.k≠0:=by omega
   clear C1 hk;obtain⟨i4,g4,a3,L4,bw,bu,a0,aQ,bE,aN,-,d1,-,-,-,-,hf⟩:=K.ok;have h5:=K.over (.inr aP) d1;have k4:=dX.at (rb:=rb) wc 1 (.int .i64 ((i4:Int)+1));clear K;go_upto_region 11 with fail;generalize wc.setCell ⟨rb,1,FE⟩ (.int .i64 ((i4:Int)+1))=w4 at *;clear d1 hf aN p0 p1 p2 p3 pf;have Z4:=k4.blk Z3 (by have:=K3.size;omega);have K4:=K3.trans k4;have al:=k4.blk TB (by omega);clear K3 Z3 TB;have c6:=n6 TI [105,110] ⟨by decide,by decide⟩ h5;go_wp2_with fail;refine c6.mono ?_;rintro e w6 ⟨x6,aL,rfl,h6,k6,Q6⟩;have C6:=C2.step Q6;clear c6 Q6 C2;have Z6:=k6.blk Z4 (by have:=K4.size;omega);have K6:=K4.trans k6;have ak:=k6.blk al (by omega);clear K4 Z4 al;have c7:=RS _ rb all (o+1) (q+1) aL TI h6 C6.nou;go_wp2_with fail;refine c7.mono ?_;rintro e w7 ⟨d,s,j,bo,rfl,S7,h7,k7,Q7⟩;have C7:=C6.step Q7;clear c7 Q7 C6;have aI:=S7.low (show (w.heap.size+1)<=_ from (by have:=FJ Z6;omega));clear S7;have Z7:=k7.blk Z6 (by have:=K6.size;omega);have K7:=K6.trans k7;have Y:=k7.blk ak (by omega);clear K6 Z6 ak;have aS:=h7.alloc (zEx d s j);have ar:=K7.alloc (zEx d s j);have aF:=(FT w7 (zEx d s j) _ (FJ Z7)).trans Z7;have W:=(FT w7 (zEx d s j) _ (FJ Y)).trans Y;have ah:(GK w7 (zEx d s j)).heap[w7.heap.size]?=FF (zEx d s j):=FM w7 _;have G:=aI.allocN (zEx d s j);have bD:rb<w7.heap.size:=by have:=K7.size;omega
   clear h7 K7 Z7 Y aI;rw[dU];have c8:=n6 TI [58] ⟨by decide,by decide⟩ aS;go_wp2_with fail;refine c8.mono ?_;rintro e w8 ⟨x8,aK,rfl,h8,k8,Q8⟩;have C8:=C7.step Q8;clear c8 Q8 C7;have Z8:=k8.blk aF (by have:=ar.size;omega);have K8:=ar.trans k8;have aj:=k8.blk W (by omega);have ai:=k8.blk ah (by omega);have ac:=G.keepN k8 (by omega);clear ar aF W ah G;have c9:=R _ rb all 1 (o+1) (q+1) aK TI (by omega) (by omega) h8 C8.nou;go_wp2_with fail;refine c9.mono ?_;rintro e w9 ⟨c,l,f,bn,rfl,S9,h9,k9,Q9⟩;have C9:=C8.step Q9;clear c9 Q9 C8;have aH:=S9.low (show (w.heap.size+1)<=_ from (by have:=FJ Z8;omega));clear S9;have Z9:=k9.blk Z8 (by have:=K8.size;omega);have K9:=K8.trans k9;have V:=k9.blk aj (by omega);have Q:=k9.blk ai (by omega);have ab:=ac.keepN k9 (by omega);clear K8 Z8 aj ai ac;have ay:=h9.alloc (zEx c l f);have aq:=K9.alloc (zEx c l f);have aE:=(FT w9 (zEx c l f) _ (FJ Z9)).trans Z9;have U:=(FT w9 (zEx c l f) _ (FJ V)).trans V;have P:=(FT w9 (zEx c l f) _ (FJ Q)).trans Q;have ag:(GK w9 (zEx c l f)).heap[w9.heap.size]?=FF (zEx c l f):=FM w9 _;have F:=ab.allocN (zEx c l f);have C:=aH.allocN (zEx c l f);have bC:rb<w9.heap.size:=by have:=K9.size;omega
   clear h9 K9 Z9 V Q ab aH;rw[dU];go_upto_region 15 with fail;generalize (GK w9 (zEx c l f))=an at *;obtain⟨aw,aV,aD,aB⟩:=ay.down;have A:dX rb an _:=dX.at an 2 (.int .i64 (Gx (aw-1)));clear ay;go_upto_region 16 with fail;generalize an.setCell ⟨rb,2,FE⟩ (.int .i64 (Gx (aw-1)))=am at *;clear aV aD;have aG:=A.blk aE (by have:=aq.size;omega);have au:=aq.trans A;have aa:=A.blk U (by omega);have T:=A.blk P (by omega);have O:=A.blk ag (by omega);have I:=F.keepN A (by omega);have E:=C.keepN A (by omega);clear aq aE U P ag F C;obtain⟨av,aU,aC,aA⟩:=aB.downQ;have z:dX rb am _:=dX.at am 3 (.int .i64 (Gx (av-1)));clear aB;go_upto_region 17 with fail;generalize am.setCell ⟨rb,3,FE⟩ (.int .i64 (Gx (av-1)))=u at *;clear aU aC;have ae:=z.blk aG (by have:=au.size;omega);have aJ:=au.trans z;have Z:=z.blk aa (by omega);have S:=z.blk T (by omega);have N:=z.blk O (by omega);have H:=I.keepN z (by omega);have D:=E.keepN z (by omega);clear au aG aa T O I E;have HX:=HC.out _ _ C9.fin;have NS:Sl (GK u (.cells [.int .i64 d.k,.int .i64 d.n,stv d.nm,.slice s d.kids.len j,.int .i64 d.a,.int .i64 c.k,.int .i64 c.n,stv c.nm,.slice l c.kids.len f,.int .i64 c.a].toArray 25)) (Nw (w.heap.size+1)) ((one d).snoc c) (FF ⟨u.heap.size,0,FE⟩):=Sl.fresh _ 25 (Fc.app (Fc.one (e:=d) j H) (Fc.one (e:=c) f D)) (by have:=FJ ae;omega);have KF:=aJ.alloc (.cells [.int .i64 d.k,.int .i64 d.n,stv d.nm,.slice s d.kids.len j,.int .i64 d.a,.int .i64 c.k,.int .i64 c.n,stv c.nm,.slice l c.kids.len f,.int .i64 c.a].toArray 25);have RF:=aA.alloc (.cells [.int .i64 d.k,.int .i64 d.n,stv d.nm,.slice s d.kids.len j,.int .i64 d.a,.int .i64 c.k,.int .i64 c.n,stv c.nm,.slice l c.kids.len f,.int .i64 c.a].toArray 25);have ZF:=(FT u (.cells [.int .i64 d.k,.int .i64 d.n,stv d.nm,.slice s d.kids.len j,.int .i64 d.a,.int .i64 c.k,.int .i64 c.n,stv c.nm,.slice l c.kids.len f,.int .i64 c.a].toArray 25) _ (FJ ae)).trans ae;have KE:=KF.set5 (b:=w.heap.size) (by omega) (.int .i64 21) (.int .i64 ((n:Int)+1)) (stv y.t) (.slice (FF ⟨u.heap.size,0,FE⟩) 2 2) (.int .i64 x.a);have RE:=RF.set5 (b:=w.heap.size) (by omega) (.int .i64 21) (.int .i64 ((n:Int)+1)) (stv y.t) (.slice (FF ⟨u.heap.size,0,FE⟩) 2 2) (.int .i64 x.a);have M:=eS (.int .i64 21) (.int .i64 ((n:Int)+1)) (stv y.t) (.slice (FF ⟨u.heap.size,0,FE⟩) 2 2) (.int .i64 x.a) ZF;have SE:Sl _ (Nw w.heap.size) _ _:=(NS.set5 (b:=w.heap.size) (by omega) (.int .i64 21) (.int .i64 ((n:Int)+1)) (stv y.t) (.slice (FF ⟨u.heap.size,0,FE⟩) 2 2) (.int .i64 x.a)).low (by omega);obtain⟨z0,z1,z2,z3,z4,zf⟩:=dT ZF;obtain⟨u0,u1,u2,u3,u4,-⟩:=dT M;obtain⟨bm,bl,bj,bi,bh⟩:=Blk.cells4 (o:=λ_=>0) (i:=0) ⟨Z,rfl⟩;obtain⟨bg,bf,be,bd,bc,bb⟩:=dT S;obtain⟨ba,a9,a8,a7,a6,a5⟩:=dT N;have B:=HX;clear HX M ZF KF RF NS aJ ae aA Z S N H D;go_wp2;exact FL (v:=exV ⟨21,((n:Int)+1),y.t,x.a,((one d).snoc c)⟩ (FF ⟨u.heap.size,0,FE⟩) 2) (by simp[results,Tryz.results164,go_sem,u0,u1,u2,u3,u4,exV];rfl) rfl ⟨_,_,_,_,rfl,SE,RE,KE,B⟩
  ·have bk:((y.k:Int)==2)=false:=by simp;omega
   have aX:((y.k:Int) != 2)=true:=by rw[_root_.bne,bk];rfl
   have HE:=HC.out _ _ (C1.2 fI (.inl (120,y.a)) (oO fI (by simp[gR,hk,Rs.bind])));clear C1 HC hk;have c5:FW FH 29 #[.pointer (FF ⟨rb,0,FE⟩),.int .i64 120] wc λr' w'=>r'=.returned (.tuple #[])/\QS w' rb all (o+1) (q+1) (.inl (120,y.a))/\dX rb wc w':=jA 120 (by decide) K;clear K;go_wp2_with fail;refine c5.mono ?_;rintro e w5 ⟨rfl,az,k5⟩;have h5:=az.bad.2.2 o q;clear c5 az p0 p1 p2 p3 pf TB;have Z5:=k5.blk Z3 (by have:=K3.size;omega);have K5:=K3.trans k5;clear K3 Z3;have KE:=K5.set5 (b:=w.heap.size) (by omega) (.int .i64 0) (.int .i64 0) (stv []) (.slice FE 0 0) (.int .i64 0);have RE:=h5.set5 (b:=w.heap.size) (by omega) (.int .i64 0) (.int .i64 0) (stv []) (.slice FE 0 0) (.int .i64 0);have M:=eS (.int .i64 0) (.int .i64 0) (stv []) (.slice FE 0 0) (.int .i64 0) Z5;obtain⟨z0,z1,z2,z3,z4,zf⟩:=dT Z5;obtain⟨u0,u1,u2,u3,u4,-⟩:=dT M;have B:=HE;clear M K5 Z5 h5;go_wp2;exact FL (v:=exV fI FE 0) (by simp[results,Tryz.results164,go_sem,u0,u1,u2,u3,u4,exV,fI,Fs.len]) rfl ⟨_,_,_,_,rfl,Sl.nil _ _ _,RE,KE,B⟩
theorem pH {f:List Tk->Rs Ex}{x:Tk}{r t:List Tk}{X:Ex}(h:f (x::r)=.ok X t):Qd f (.inr (x::r)) X (.inr t):=⟨by simp only[onw];rw[h];rfl,λts y t2 b a=>by cases b;rw[h] at a;exact(Rs.ok_inj a).1⟩
theorem jc {L:List (List UInt8)}{x:Tk}{r:List Tk}{k:Nat}{s:List UInt8}(c:L[k]?=FF s)(a:x.t=s)(f:∀ j t,j<k->L[j]?=FF t->t≠s):iI L (.inr (x::r))=(k:Nat):=qL c (by simp[isS,a]) λj t d b=>by
 have:=f j t d b
 simp only[isS,beq_eq_false_iff_ne,a];exact λe=>this e.symm
theorem lS {L:List (List UInt8)}{x:Tk}{r:List Tk}(h:∀ s,s ∈ L->x.t≠s):iI L (.inr (x::r))=-1:=qT λj t _ a=>by
 have:=h t (G1 a)
 simpa [isS] using this
theorem iq.not {x:Tk}(h:iq x)(a:x.k≠3/\x.k≠4){s:List UInt8}(b:s≠[])(c:eD s=false):x.t≠s:=λe=>by
 have:=h s b c
 simp[a.1,a.2,e] at this
theorem BJ {w:FI}{rb o q er a:Nat}{all:List Tk}(f:List Tk->Rs Ex)(h:QS w rb all o q (.inl (er,a))) :
  FW FH 204 #[.pointer (FF ⟨rb,0,FE⟩)] w (f8 rb all o q w (.inl (er,a)) f):=by
 have g:=h.lt;have e:=h.alloc exZ;have l:dX rb w (w.alloc exZ):=(dX.refl rb w).alloc _;have k:(w.alloc exZ).heap[w.heap.size]?=FF exZ:=FM w _;obtain⟨j,c4,-⟩:=e.bad;have i:((er:Int) != 0)=true:=by simpa using j
 have d:Hid (∀ wx b,(QS wx rb all o q b/\dX rb w wx/\b=.inl (er,a))->f8 rb all o q w (.inl (er,a)) f (.returned (exV fI FE 0)) wx):=λwx b c=>⟨fI,FE,0,b,rfl,Sl.nil _ _ _,c.1,c.2.1,by rw[c.2.2];exact Qd.bad f _ _⟩;obtain⟨z0,n,z2,z3,z4,m⟩:=dT k;go_enter Tryz.func204,Tryz.ntmps204;go_wp2;exact FL (v:=exV fI FE 0) (by simp[results,IK,go_sem,exV,fI,Fs.len]) rfl (d.out _ _ ⟨e,l,rfl⟩)
theorem Df {rec:Rdr}(R:lN rec){w:FI}{rb o q m:Nat}{all:List Tk}{x:Tk}{r:List Tk}(hm:m<=1000000)(TI:∀ x,x ∈ all->iq x)(h:QS w rb all o q (.inr (x::r)))(hn:Nou (iO rec m o q) (.inr (x::r))) :
  FW FH 204 #[.pointer (FF ⟨rb,0,FE⟩)] w (f8 rb all o q w (.inr (x::r)) (iO rec m o q)):=by
 have aQ:=h.lt;have K0:dX rb w (w.alloc exZ):=(dX.refl rb w).alloc _;have Z0:(w.alloc exZ).heap[w.heap.size]?=FF exZ:=FM w _;have h0:=h.alloc exZ;have d4:=h0.e0;go_enter Tryz.func204,Tryz.ntmps204;go_upto_region 3 with fail;generalize w.alloc exZ=v0 at *;clear d4;have h3:=h0;clear h0;obtain⟨i3,g3,aG,L3,aT,aS,aE,az,aW,ao,d0,d1,-,-,-,⟨t0,t1,t2,t3⟩,hf⟩:=h3.ok;have bz:FP v0.heap.size v0 (v0.alloc (.cells #[.int .i64 0,.int .i64 0,.string ⟨#[]⟩,.int .i64 0] 67)):=(FS _ v0).alloc (FG _) _;have af:rb<v0.heap.size:=h3.lt;have ae:g3<v0.heap.size:=by omega
 have aC:=(bz.cell (p:=⟨rb,0,FE⟩) af).trans d0;have aB:=(bz.cell (p:=⟨rb,1,FE⟩) af).trans d1;have V:=(bz.cell (p:=⟨g3,i3*4,FE⟩) ae).trans t0;have U:=(bz.cell (p:=⟨g3,i3*4+1,FE⟩) ae).trans t1;have T:=(bz.cell (p:=⟨g3,i3*4+2,FE⟩) ae).trans t2;have u3:=(bz.cell (p:=⟨g3,i3*4+3,FE⟩) ae).trans t3;have aR:(i3:Int)<(L3:Int):=by omega
 have am:=jk v0 (.cells #[.int .i64 (x.k:Nat),.int .i64 x.n,stv x.t,.int .i64 (x.a:Nat)] 67);clear bz;go_upto_region 3 with fail;go_cut [3] (λv wx=>∃bt,v=.pointer (FF ⟨bt,0,FE⟩)/\v0.heap.size<=bt/\wx.heap[bt]?=FF (.cells #[.int .i64 (x.k:Nat),.int .i64 x.n,stv x.t,.int .i64 (x.a:Nat)] 67 (0,0))/\FP v0.heap.size v0 wx)
 case first =>
  go_region
  all_goals
   go_wp2;go_meet;exact⟨_,rfl,FG _,am.1,am.2⟩
 case rest =>
 obtain⟨bt,rfl,aF,TB,B1⟩:=hcut;clear t0 t1 t2 t3 d0 d1 hf aC aB V U T u3 am;have k3:=dX.ofBelow (rb:=rb) B1;have h4:=h3.below B1;have aU:rb<bt:=by have:=h3.lt;omega
 clear h3 B1;have Z3:=k3.blk Z0 (by have:=K0.size;omega);have K3:=K0.trans k3;clear K0 Z0;obtain⟨A,hA⟩:∃A,iI [[118,101,114,116,105,99,101,115],[97,114,111,117,110,100],[123]] (.inr (x::r))=A:=⟨_,rfl⟩;have WL:Wl wc [[118,101,114,116,105,99,101,115],[97,114,111,117,110,100],[123]] (GK wc (.cells #[.string ⟨#[118,101,114,116,105,99,101,115]⟩,.string ⟨#[97,114,111,117,110,100]⟩,.string ⟨#[123]⟩] 9)) wc.heap.size:=lh wc [[118,101,114,116,105,99,101,115],[97,114,111,117,110,100],[123]] _;have c5:=jC TI [[118,101,114,116,105,99,101,115],[97,114,111,117,110,100],[123]] (by decide) (h4.below WL.1) (n:=3) (cap:=3) rfl WL.2.2.1 WL.2.2.2 (by omega) (by unfold F9;omega);go_wp2_with fail;refine c5.mono ?_;rintro e w5 ⟨rfl,b5⟩;have B5:=WL.1.trans (b5.mono WL.1.size);have k5:=dX.ofBelow (rb:=rb) B5;have h5:=h4.below B5;clear WL c5 b5 B5 h4;have Z5:=k5.blk Z3 (by have:=K3.size;omega);have I:=K3.trans k5;have f:=k5.blk TB (by omega);clear K3 Z3 TB;rw[hA];have TX:=TI x ao;clear ao;by_cases l:x.t=[118,101,114,116,105,99,101,115]
 ·obtain rfl:A=0:=hA.symm.trans (jc (k:=0) rfl l (by omega));have J:¬x.k=2:=λe=>TX.not (by omega) (by decide) (by decide) l;have HE:Qd (iO rec m o q) (.inr (x::r)) ⟨22,0,[],(x.a:Nat),.nil⟩ (.inr r):=pH (by simp only[iO,J,l,if_true,if_false]);have al:x.t≠[]:=by rw[l];decide
  clear hA l J TX hn;obtain⟨i6,g6,u,L6,aq,ap,ag,Y,ar,W,-,d1,-,-,-,-,hf⟩:=h5.ok;have S:=h5.over (.inl al) d1;have D:=dX.at (rb:=rb) w5 1 (.int .i64 ((i6:Int)+1));clear h5;go_upto_region 7 with fail;generalize w5.setCell ⟨rb,1,FE⟩ (.int .i64 ((i6:Int)+1))=w6 at *;clear d1 hf W;have E:=D.blk Z5 (by have:=I.size;omega);have G:=I.trans D;have g:=D.blk f (by omega);clear I Z5 f;have KE:=G.set5 (b:=w.heap.size) (by omega) (.int .i64 22) (.int .i64 0) (stv []) (.slice FE 0 0) (.int .i64 x.a);have RE:=S.set5 (b:=w.heap.size) (by omega) (.int .i64 22) (.int .i64 0) (stv []) (.slice FE 0 0) (.int .i64 x.a);have K:=eS (.int .i64 22) (.int .i64 0) (stv []) (.slice FE 0 0) (.int .i64 x.a) E;obtain⟨z0,z1,z2,z3,z4,zf⟩:=dT E;obtain⟨V,U,T,u3,u4,-⟩:=dT K;obtain⟨Q,P,O,N,M⟩:=Blk.cells4 (o:=λ_=>0) (i:=0) ⟨g,rfl⟩;have C:=HE;clear K G E S g;go_wp2;exact FL (v:=exV ⟨22,0,[],x.a,.nil⟩ FE 0) (by simp[results,IK,go_sem,V,U,T,u3,u4,exV,Fs.len]) rfl ⟨_,_,_,_,rfl,Sl.nil _ _ _,RE,KE,C⟩
 by_cases y:x.t=[97,114,111,117,110,100]
 ·obtain rfl:A=1:=hA.symm.trans (jc (k:=1) rfl y (λj t hj ht=>by (obtain rfl:j=0:=by omega);simp at ht;subst ht;decide));have J:¬x.k=2:=λe=>TX.not (by omega) (by decide) (by decide) y;have C1:=(Ctx.start hn).eat (H:=(λts=>(ej [40] o ts).bind λ_ t1=>(rec 1 (o+1) q t1).bind λe t2=>(eE [41] t2).bind λ_ t4=>.ok ⟨24,0,[],(x.a:Nat),one e⟩ t4)) (by simp only[iO,J,l,y,if_true,if_false,iz,jl,Rs.bind_assoc,Rs.ok_bind,I5];rfl);have al:x.t≠[]:=by rw[y];decide
  clear hA l y J TX hn;obtain⟨i6,g6,u,L6,aq,ap,ag,Y,ar,W,-,d1,-,-,-,-,hf⟩:=h5.ok;have S:=h5.over (.inl al) d1;have D:=dX.at (rb:=rb) w5 1 (.int .i64 ((i6:Int)+1));clear h5;go_upto_region 10 with fail;generalize w5.setCell ⟨rb,1,FE⟩ (.int .i64 ((i6:Int)+1))=w6 at *;clear d1 hf W;have E:=D.blk Z5 (by have:=I.size;omega);have G:=I.trans D;have g:=D.blk f (by omega);clear I Z5 f;have c7:=kH TI [40] ⟨by decide,by decide⟩ S;go_wp2_with fail;refine c7.mono ?_;rintro e w7 ⟨x7,ax,rfl,h7,k7,Q7⟩;have C7:=C1.step Q7;clear c7 Q7 C1;have Z7:=k7.blk E (by have:=G.size;omega);have K7:=G.trans k7;have aj:=k7.blk g (by omega);clear G E g;have c8:=R _ rb all 1 (o+1) (q) ax TI (by omega) (by omega) h7 C7.nou;go_wp2_with fail;refine c8.mono ?_;rintro e w8 ⟨c,z,d,aO,rfl,S8,h8,k8,Q8⟩;have C8:=C7.step Q8;clear c8 Q8 C7;have av:=S8.low (show (w.heap.size+1)<=_ from (by have:=FJ Z7;omega));clear S8;have Z8:=k8.blk Z7 (by have:=K7.size;omega);have K8:=K7.trans k8;have ac:=k8.blk aj (by omega);clear K7 Z7 aj;have aA:=h8.alloc (zEx c z d);have an:=K8.alloc (zEx c z d);have au:=(FT w8 (zEx c z d) _ (FJ Z8)).trans Z8;have ab:=(FT w8 (zEx c z d) _ (FJ ac)).trans ac;have ah:(GK w8 (zEx c z d)).heap[w8.heap.size]?=FF (zEx c z d):=FM w8 _;have L:=av.allocN (zEx c z d);have aV:rb<w8.heap.size:=by have:=K8.size;omega
  clear h8 K8 Z8 ac av;rw[dU];have c9:=kP TI [41] ⟨by decide,by decide⟩ aA;go_wp2_with fail;refine c9.mono ?_;rintro e w9 ⟨x9,aN,rfl,h9,k9,Q9⟩;have C9:=C8.step Q9;clear c9 Q9 C8;have Z9:=k9.blk au (by have:=an.size;omega);have K9:=an.trans k9;have aa:=k9.blk ab (by omega);have ai:=k9.blk ah (by omega);have ad:=L.keepN k9 (by omega);clear an au ab ah L;have NS:Sl (GK w9 (.cells [.int .i64 c.k,.int .i64 c.n,stv c.nm,.slice z c.kids.len d,.int .i64 c.a].toArray 25)) (Nw (w.heap.size+1)) (one c) (FF ⟨w9.heap.size,0,FE⟩):=Sl.fresh _ 25 (Fc.one (e:=c) d ad) (by have:=FJ Z9;omega);have KF:=K9.alloc (.cells [.int .i64 c.k,.int .i64 c.n,stv c.nm,.slice z c.kids.len d,.int .i64 c.a].toArray 25);have RF:=h9.alloc (.cells [.int .i64 c.k,.int .i64 c.n,stv c.nm,.slice z c.kids.len d,.int .i64 c.a].toArray 25);have ZF:=(FT w9 (.cells [.int .i64 c.k,.int .i64 c.n,stv c.nm,.slice z c.kids.len d,.int .i64 c.a].toArray 25) _ (FJ Z9)).trans Z9;have KE:=KF.set5 (b:=w.heap.size) (by omega) (.int .i64 24) (.int .i64 0) (stv []) (.slice (FF ⟨w9.heap.size,0,FE⟩) 1 1) (.int .i64 x.a);have RE:=RF.set5 (b:=w.heap.size) (by omega) (.int .i64 24) (.int .i64 0) (stv []) (.slice (FF ⟨w9.heap.size,0,FE⟩) 1 1) (.int .i64 x.a);have K:=eS (.int .i64 24) (.int .i64 0) (stv []) (.slice (FF ⟨w9.heap.size,0,FE⟩) 1 1) (.int .i64 x.a) ZF;have SE:Sl _ (Nw w.heap.size) _ _:=(NS.set5 (b:=w.heap.size) (by omega) (.int .i64 24) (.int .i64 0) (stv []) (.slice (FF ⟨w9.heap.size,0,FE⟩) 1 1) (.int .i64 x.a)).low (by omega);obtain⟨z0,z1,z2,z3,z4,zf⟩:=dT ZF;obtain⟨V,U,T,u3,u4,-⟩:=dT K;have aD:bt<w9.heap.size:=FJ aa;obtain⟨Q,P,O,N,M⟩:=Blk.cells4 (o:=λ_=>0) (i:=0) ⟨aa,rfl⟩;obtain⟨aM,aL,aK,aJ,aI,aH⟩:=dT ai;have C:=C9.fin;clear C9 K ZF KF RF NS K9 Z9 h9 aa ai ad;go_wp2;exact FL (v:=exV ⟨24,0,[],x.a,(one c)⟩ (FF ⟨w9.heap.size,0,FE⟩) 1) (by simp[results,IK,go_sem,V,U,T,u3,u4,exV];rfl) rfl ⟨_,_,_,_,rfl,SE,RE,KE,C⟩
 by_cases F:x.t=[123]
 ·obtain rfl:A=2:=hA.symm.trans (jc (k:=2) rfl F (λj t hj ht=>by (obtain rfl|rfl:j=0\/j=1:=by omega)<;>simp at ht<;>subst ht<;>decide));have J:¬x.k=2:=λe=>TX.not (by omega) (by decide) (by decide) F;have EQ:∀ ts,(.inr (x::r):Sq)=.inr ts->iO rec m o q ts=sJ rec m o q ts:=λts hs=>by
   cases hs;simp only[iO,J,l,y,if_false];rfl
  have HN:=hn.congr EQ;have HC:Hid (∀ X ak,Qd (sJ rec m o q) (.inr (x::r)) X ak->Qd (iO rec m o q) (.inr (x::r)) X ak):=λX ak q=>q.congr λts hs=>(EQ ts hs).symm;clear EQ hA l y F J TX hn;obtain⟨Q,P,O,N,M⟩:=Blk.cells4 (o:=λ_=>0) (i:=0) ⟨f,rfl⟩;have c6:=DH R hm TI h5 HN;go_wp2_with fail;refine c6.mono ?_;rintro e w6 ⟨B,Z,u,aP,rfl,S6,S,D,Q6⟩;have HX:=HC.out _ _ Q6;clear c6 Q6 h5 Q P O N M;have aw:=S6.low (show (w.heap.size+1)<=_ from (by have:=FJ Z5;omega));clear S6;have E:=D.blk Z5 (by have:=I.size;omega);have G:=I.trans D;have g:=D.blk f (by omega);clear I Z5 f;have KE:=G.set5 (b:=w.heap.size) (by omega) (.int .i64 B.k) (.int .i64 B.n) (stv B.nm) (.slice Z B.kids.len u) (.int .i64 B.a);have RE:=S.set5 (b:=w.heap.size) (by omega) (.int .i64 B.k) (.int .i64 B.n) (stv B.nm) (.slice Z B.kids.len u) (.int .i64 B.a);have K:=eS (.int .i64 B.k) (.int .i64 B.n) (stv B.nm) (.slice Z B.kids.len u) (.int .i64 B.a) E;have SE:Sl _ (Nw w.heap.size) _ _:=(aw.set5 (b:=w.heap.size) (by omega) (.int .i64 B.k) (.int .i64 B.n) (stv B.nm) (.slice Z B.kids.len u) (.int .i64 B.a)).low (by omega);obtain⟨z0,z1,z2,z3,z4,zf⟩:=dT E;obtain⟨V,U,T,u3,u4,-⟩:=dT K;have C:=HX;clear K G E S g aw;rw[dU];go_wp2;exact FL (v:=exV B Z u) (by simp[results,IK,go_sem,V,U,T,u3,u4,exV]) rfl ⟨_,_,_,_,rfl,SE,RE,KE,C⟩
 obtain rfl:A=-1:=hA.symm.trans (lS (by simp only[GY,GW,or_false];rintro s (rfl|rfl|rfl);exact l;exact y;exact F));by_cases J:x.k=2
 ·have HE:Qd (iO rec m o q) (.inr (x::r)) ⟨23,0,x.t,(x.a:Nat),.nil⟩ (.inr r):=pH (by simp only[iO,J,if_true]);have bk:((x.k:Int)==2)=true:=by simp[J]
  have ay:x.k≠0:=by omega
  clear hA l y F J TX hn;obtain⟨q0,q1,q2,q3,qf⟩:=Blk.cells4 (o:=λ_=>0) (i:=0) ⟨f,rfl⟩;obtain⟨i6,g6,u,L6,aq,ap,ag,Y,ar,W,-,d1,-,-,-,-,hf⟩:=h5.ok;have S:=h5.over (.inr ay) d1;have D:=dX.at (rb:=rb) w5 1 (.int .i64 ((i6:Int)+1));clear h5;go_upto_region 18 with fail;generalize w5.setCell ⟨rb,1,FE⟩ (.int .i64 ((i6:Int)+1))=w6 at *;clear d1 hf W;have E:=D.blk Z5 (by have:=I.size;omega);have G:=I.trans D;have g:=D.blk f (by omega);clear I Z5 f;clear q0 q1 q2 q3 qf;have KE:=G.set5 (b:=w.heap.size) (by omega) (.int .i64 23) (.int .i64 0) (stv x.t) (.slice FE 0 0) (.int .i64 x.a);have RE:=S.set5 (b:=w.heap.size) (by omega) (.int .i64 23) (.int .i64 0) (stv x.t) (.slice FE 0 0) (.int .i64 x.a);have K:=eS (.int .i64 23) (.int .i64 0) (stv x.t) (.slice FE 0 0) (.int .i64 x.a) E;obtain⟨z0,z1,z2,z3,z4,zf⟩:=dT E;obtain⟨V,U,T,u3,u4,-⟩:=dT K;obtain⟨Q,P,O,N,M⟩:=Blk.cells4 (o:=λ_=>0) (i:=0) ⟨g,rfl⟩;have C:=HE;clear K G E S g;go_wp2;exact FL (v:=exV ⟨23,0,x.t,x.a,.nil⟩ FE 0) (by simp[results,IK,go_sem,V,U,T,u3,u4,exV,Fs.len]) rfl ⟨_,_,_,_,rfl,Sl.nil _ _ _,RE,KE,C⟩
 ·have HE:Qd (iO rec m o q) (.inr (x::r)) fI (.inl (120,x.a)):=oO fI (by simp only[iO,J,l,y,if_false];simp[ej,F,Rs.bind]);have bk:((x.k:Int)==2)=false:=by simp;omega
  clear hA l y F J TX hn;have c6:FW FH 29 #[.pointer (FF ⟨rb,0,FE⟩),.int .i64 120] w5 λr' w'=>r'=.returned (.tuple #[])/\QS w' rb all o q (.inl (120,x.a))/\dX rb w5 w':=jA 120 (by decide) h5;obtain⟨Q,P,O,N,M⟩:=Blk.cells4 (o:=λ_=>0) (i:=0) ⟨f,rfl⟩;go_wp2_with fail;refine c6.mono ?_;rintro e w6 ⟨rfl,S,D⟩;clear c6 h5 f Q P O N M;have E:=D.blk Z5 (by have:=I.size;omega);have G:=I.trans D;clear I Z5;have KE:=G.set5 (b:=w.heap.size) (by omega) (.int .i64 0) (.int .i64 0) (stv []) (.slice FE 0 0) (.int .i64 0);have RE:=S.set5 (b:=w.heap.size) (by omega) (.int .i64 0) (.int .i64 0) (stv []) (.slice FE 0 0) (.int .i64 0);have K:=eS (.int .i64 0) (.int .i64 0) (stv []) (.slice FE 0 0) (.int .i64 0) E;obtain⟨z0,z1,z2,z3,z4,zf⟩:=dT E;obtain⟨V,U,T,u3,u4,-⟩:=dT K;have C:=HE;clear K G E S;go_wp2;exact FL (v:=exV fI FE 0) (by simp[results,IK,go_sem,V,U,T,u3,u4,exV,fI,Fs.len]) rfl ⟨_,_,_,_,rfl,Sl.nil _ _ _,RE,KE,C⟩
theorem Ey {rec:Rdr}(R:lN rec){m:Nat}(c:m<=1000000):Dv rec m:=by
 intro w rb all o q st d h b
 match st,h,b with
 | .inl (er,a),h,b=>exact BJ _ h
 | .inr [],h,b=>exact absurd rfl (h.nn [] rfl)
 | .inr (x::r),h,b=>exact Df R c d h b
theorem DO:∀ s,s ∈ cwL->s≠[]/\eD s=false:=by decide
theorem DY:∀ s,s ∈ qwL->s≠[]/\eD s=false:=by decide
theorem wN {x:Tk}{r:List Tk}(h:nS x.t=FE):iI cwL (.inr (x::r))=-1:=lS λs b e=>by
 obtain⟨z,a,rfl⟩:=List.mem_map.1 b
 have:=List.find?_eq_none.1 h z a
 simp[e] at this
theorem tn {x:Tk}{r:List Tk}(h:lB x.t=FE):iI qwL (.inr (x::r))=-1:=lS λs b e=>by
 obtain⟨z,a,rfl⟩:=List.mem_map.1 b
 have:=List.find?_eq_none.1 h z a
 simp[e] at this
theorem sH {L:List (List UInt8)}(i:L.Nodup){k:Nat}{s:List UInt8}(g:L[k]?=FF s):∀ j t,j<k->L[j]?=FF t->t≠s:=λj t h f e=>by
 subst e;obtain⟨b,a⟩:=List.getElem?_eq_some_iff.1 g;obtain⟨d,c⟩:=List.getElem?_eq_some_iff.1 f;exact(List.pairwise_iff_getElem.1 i j k d b h) (c.trans a.symm)
theorem xy {x:Tk}{r:List Tk}{z:List UInt8 × Nat × Nat}(h:nS x.t=FF z):∃i:Nat,iI cwL (.inr (x::r))=(i:Nat)/\i<10/\z.2.1=i+1/\z.2.2=(if i<3 then 2 else 1)/\x.t≠[]:=by
 have e:z ∈ gQ:=Gr h;have b:=Hw h;simp only[beq_iff_eq] at b;obtain⟨i,c,d⟩:=List.getElem_of_mem e;have f:gQ.length=10:=rfl;have h1:cwL[i]?=FF z.1:=by
  rw[cwL,GM,FN c,d];rfl
 have a:∀ i,(h:i<gQ.length)->gQ[i].2.1=i+1/\gQ[i].2.2=(if i<3 then 2 else 1)/\gQ[i].1≠[]:=by decide
 have:=a i c
 rw[d] at this;exact⟨i,jc h1 b.symm (sH (by decide) h1),by omega,this.1,this.2.1,by rw[<-b];exact this.2.2⟩
theorem tQ {x:Tk}{r:List Tk}{z:List UInt8 × Nat}(h:lB x.t=FF z):∃i:Nat,iI qwL (.inr (x::r))=(i:Nat)/\i<6/\z.2=i+1/\x.t≠[]:=by
 have e:z ∈ gm:=Gr h;have b:=Hw h;simp only[beq_iff_eq] at b;obtain⟨i,c,d⟩:=List.getElem_of_mem e;have f:gm.length=6:=rfl;have h1:qwL[i]?=FF z.1:=by
  rw[qwL,GM,FN c,d];rfl
 have a:∀ i,(h:i<gm.length)->gm[i].2=i+1/\gm[i].1≠[]:=by decide
 have:=a i c
 rw[d] at this;exact⟨i,jc h1 b.symm (sH (by decide) h1),by omega,this.1,by rw[<-b];exact this.2⟩
theorem AH {y:Tk}{r:List Tk}(h:y.k=1):Qd (gR 1) (.inr (y::r)) y (.inr r):=⟨by simp[onw,gR,h,stp],λts z t b a=>by cases b;simp[gR,h] at a;exact a.1⟩
theorem Dn {rec:Rdr}(R:lN rec){m:Nat}(RS:Dv rec m){w:FI}{rb o q:Nat}{all:List Tk}{x:Tk}{r:List Tk}(TI:∀ x,x ∈ all->iq x)(h:QS w rb all o q (.inr (x::r)))(hn:Nou (fr rec m o q) (.inr (x::r))) :
  FW FH 105 #[.pointer (FF ⟨rb,0,FE⟩)] w (f8 rb all o q w (.inr (x::r)) (fr rec m o q)):=by
 have bS:=h.lt;have K0:dX rb w (w.alloc exZ):=(dX.refl rb w).alloc _;have Z0:(w.alloc exZ).heap[w.heap.size]?=FF exZ:=FM w _;have h0:=h.alloc exZ;have d4:=h0.e0;go_enter Tryz.func105,Tryz.ntmps105;go_upto_region 3 with fail;generalize w.alloc exZ=v0 at *;clear d4;have h3:=h0;clear h0;obtain⟨i3,g3,bP,L3,bU,bT,bJ,br,bX,a6,d0,d1,-,-,-,⟨t0,t1,t2,t3⟩,hf⟩:=h3.ok;have bz:FP v0.heap.size v0 (v0.alloc (.cells #[.int .i64 0,.int .i64 0,.string ⟨#[]⟩,.int .i64 0] 67)):=(FS _ v0).alloc (FG _) _;have aq:rb<v0.heap.size:=h3.lt;have an:g3<v0.heap.size:=by omega
 have a8:=(bz.cell (p:=⟨rb,0,FE⟩) aq).trans d0;have a7:=(bz.cell (p:=⟨rb,1,FE⟩) aq).trans d1;have u0:=(bz.cell (p:=⟨g3,i3*4,FE⟩) an).trans t0;have u1:=(bz.cell (p:=⟨g3,i3*4+1,FE⟩) an).trans t1;have u2:=(bz.cell (p:=⟨g3,i3*4+2,FE⟩) an).trans t2;have u3:=(bz.cell (p:=⟨g3,i3*4+3,FE⟩) an).trans t3;have bp:(i3:Int)<(L3:Int):=by omega
 have aA:=jk v0 (.cells #[.int .i64 (x.k:Nat),.int .i64 x.n,stv x.t,.int .i64 (x.a:Nat)] 67);clear bz;go_upto_region 3 with fail;go_cut [3] (λv wx=>∃bt,v=.pointer (FF ⟨bt,0,FE⟩)/\v0.heap.size<=bt/\wx.heap[bt]?=FF (.cells #[.int .i64 (x.k:Nat),.int .i64 x.n,stv x.t,.int .i64 (x.a:Nat)] 67 (0,0))/\FP v0.heap.size v0 wx)
 case first =>
  go_region
  all_goals
   go_wp2;go_meet;exact⟨_,rfl,FG _,aA.1,aA.2⟩
 case rest =>
 obtain⟨bt,rfl,bL,TB,B1⟩:=hcut;clear t0 t1 t2 t3 d0 d1 hf a8 a7 u0 u1 u2 u3 aA;have k3:=dX.ofBelow (rb:=rb) B1;have h4:=h3.below B1;have bW:rb<bt:=by have:=h3.lt;omega
 clear h3 B1;have Z3:=k3.blk Z0 (by have:=K0.size;omega);have K3:=K0.trans k3;clear K0 Z0;obtain⟨A1,ad⟩:∃A,iI cwL (.inr (x::r))=A:=⟨_,rfl⟩;obtain⟨A2,ac⟩:∃A,iI qwL (.inr (x::r))=A:=⟨_,rfl⟩;obtain⟨A3,Z⟩:∃A,iI [[102,97,108,115,101],[116,114,117,101]] (.inr (x::r))=A:=⟨_,rfl⟩;obtain⟨A4,V⟩:∃A,iI [[64],[40],[105,102]] (.inr (x::r))=A:=⟨_,rfl⟩;have c5:=vM wc;go_wp2_with fail;refine c5.mono ?_;rintro e w5 ⟨g5,rfl,WL⟩;clear c5;have c6:=jC TI cwL DO (h4.below WL.1) (n:=10) (cap:=10) rfl WL.2.2.1 WL.2.2.2 (by omega) (by unfold F9;omega);go_wp2_with fail;refine c6.mono ?_;rintro e w6 ⟨rfl,b6⟩;have B6:=WL.1.trans (b6.mono WL.1.size);have k6:=dX.ofBelow (rb:=rb) B6;have h6:=h4.below B6;clear WL c6 b6 B6 h4;have Z6:=k6.blk Z3 (by have:=K3.size;omega);have K6:=K3.trans k6;have a3:=k6.blk TB (by omega);clear K3 Z3 TB;rw[ad];have c7:=nR w6;go_wp2_with fail;refine c7.mono ?_;rintro e w7 ⟨g7,rfl,WL⟩;clear c7;have c8:=jC TI qwL DY (h6.below WL.1) (n:=6) (cap:=6) rfl WL.2.2.1 WL.2.2.2 (by omega) (by unfold F9;omega);go_wp2_with fail;refine c8.mono ?_;rintro e w8 ⟨rfl,b8⟩;have B8:=WL.1.trans (b8.mono WL.1.size);have k8:=dX.ofBelow (rb:=rb) B8;have h8:=h6.below B8;clear WL c8 b8 B8 h6;have Z8:=k8.blk Z6 (by have:=K6.size;omega);have K8:=K6.trans k8;have a2:=k8.blk a3 (by omega);clear K6 Z6 a3;rw[ac];have WL:Wl w8 [[102,97,108,115,101],[116,114,117,101]] (GK w8 (.cells #[.string ⟨#[102,97,108,115,101]⟩,.string ⟨#[116,114,117,101]⟩] 9)) w8.heap.size:=lh w8 [[102,97,108,115,101],[116,114,117,101]] _;have c9:=jC TI [[102,97,108,115,101],[116,114,117,101]] (by decide) (h8.below WL.1) (n:=2) (cap:=2) rfl WL.2.2.1 WL.2.2.2 (by omega) (by unfold F9;omega);go_wp2_with fail;refine c9.mono ?_;rintro e w9 ⟨rfl,b9⟩;have B9:=WL.1.trans (b9.mono WL.1.size);have k9:=dX.ofBelow (rb:=rb) B9;have h9:=h8.below B9;clear WL c9 b9 B9 h8;have Z9:=k9.blk Z8 (by have:=K8.size;omega);have K9:=K8.trans k9;have a1:=k9.blk a2 (by omega);clear K8 Z8 a2;rw[Z];have WL:Wl w9 [[64],[40],[105,102]] (GK w9 (.cells #[.string ⟨#[64]⟩,.string ⟨#[40]⟩,.string ⟨#[105,102]⟩] 9)) w9.heap.size:=lh w9 [[64],[40],[105,102]] _;have bg:=jC TI [[64],[40],[105,102]] (by decide) (h9.below WL.1) (n:=3) (cap:=3) rfl WL.2.2.1 WL.2.2.2 (by omega) (by unfold F9;omega);go_wp2_with fail;refine bg.mono ?_;rintro e af ⟨rfl,bh⟩;have ba:=WL.1.trans (bh.mono WL.1.size);have a5:=dX.ofBelow (rb:=rb) ba;have I:=h9.below ba;clear WL bg bh ba h9;have J:=a5.blk Z9 (by have:=K9.size;omega);have D:=K9.trans a5;have f:=a5.blk a1 (by omega);clear K9 Z9 a1;rw[V];clear a6;obtain⟨q0,q1,q2,q3,qf⟩:=Blk.cells4 (o:=λ_=>0) (i:=0) ⟨f,rfl⟩;by_cases k1:x.k=1
 ·have HE:Qd (fr rec m o q) (.inr (x::r)) ⟨1,x.n,[],(x.a:Nat),.nil⟩ (.inr r):=pH (by simp only[fr,k1,if_true]);have b1:((x.k:Int)==1)=true:=by simp[k1]
  have aR:x.k≠0:=by omega
  clear k1 hn ad ac Z V;obtain⟨W,aY,l,aZ,aD,aC,ao,ah,aE,Y,-,d1,-,-,-,-,hf⟩:=I.ok;have E:=I.over (.inr aR) d1;have u:=dX.at (rb:=rb) af 1 (.int .i64 ((W:Int)+1));clear I;go_upto_region 10 with fail;generalize af.setCell ⟨rb,1,FE⟩ (.int .i64 ((W:Int)+1))=L at *;clear d1 hf Y;have B:=u.blk J (by have:=D.size;omega);have C:=D.trans u;have g:=u.blk f (by omega);clear D J f;clear q0 q1 q2 q3 qf;have KE:=C.set5 (b:=w.heap.size) (by omega) (.int .i64 1) (.int .i64 x.n) (stv []) (.slice FE 0 0) (.int .i64 x.a);have RE:=E.set5 (b:=w.heap.size) (by omega) (.int .i64 1) (.int .i64 x.n) (stv []) (.slice FE 0 0) (.int .i64 x.a);have U:=eS (.int .i64 1) (.int .i64 x.n) (stv []) (.slice FE 0 0) (.int .i64 x.a) B;obtain⟨z0,z1,z2,z3,z4,zf⟩:=dT B;obtain⟨u0,u1,u2,u3,u4,-⟩:=dT U;obtain⟨T,S,Q,P,O⟩:=Blk.cells4 (o:=λ_=>0) (i:=0) ⟨g,rfl⟩;have K:=HE;clear U C B E g;go_wp2;exact FL (v:=exV ⟨1,x.n,[],x.a,.nil⟩ FE 0) (by simp[results,Hi,go_sem,u0,u1,u2,u3,u4,exV,Fs.len]) rfl ⟨_,_,_,_,rfl,Sl.nil _ _ _,RE,KE,K⟩
 have b1:((x.k:Int)==1)=false:=by simp;omega
 by_cases k2:x.k=2
 ·have HE:Qd (fr rec m o q) (.inr (x::r)) ⟨4,0,x.t,(x.a:Nat),.nil⟩ (.inr r):=pH (by simp only[fr,k1,k2,if_true,if_false];rw[if_neg (by decide)]);have b2:((x.k:Int)==2)=true:=by simp[k2]
  have aR:x.k≠0:=by omega
  clear k1 k2 hn ad ac Z V;obtain⟨W,aY,l,aZ,aD,aC,ao,ah,aE,Y,-,d1,-,-,-,-,hf⟩:=I.ok;have E:=I.over (.inr aR) d1;have u:=dX.at (rb:=rb) af 1 (.int .i64 ((W:Int)+1));clear I;go_upto_region 13 with fail;generalize af.setCell ⟨rb,1,FE⟩ (.int .i64 ((W:Int)+1))=L at *;clear d1 hf Y;have B:=u.blk J (by have:=D.size;omega);have C:=D.trans u;have g:=u.blk f (by omega);clear D J f;clear q0 q1 q2 q3 qf;have KE:=C.set5 (b:=w.heap.size) (by omega) (.int .i64 4) (.int .i64 0) (stv x.t) (.slice FE 0 0) (.int .i64 x.a);have RE:=E.set5 (b:=w.heap.size) (by omega) (.int .i64 4) (.int .i64 0) (stv x.t) (.slice FE 0 0) (.int .i64 x.a);have U:=eS (.int .i64 4) (.int .i64 0) (stv x.t) (.slice FE 0 0) (.int .i64 x.a) B;obtain⟨z0,z1,z2,z3,z4,zf⟩:=dT B;obtain⟨u0,u1,u2,u3,u4,-⟩:=dT U;obtain⟨T,S,Q,P,O⟩:=Blk.cells4 (o:=λ_=>0) (i:=0) ⟨g,rfl⟩;have K:=HE;clear U C B E g;go_wp2;exact FL (v:=exV ⟨4,0,x.t,x.a,.nil⟩ FE 0) (by simp[results,Hi,go_sem,u0,u1,u2,u3,u4,exV,Fs.len]) rfl ⟨_,_,_,_,rfl,Sl.nil _ _ _,RE,KE,K⟩
 have b2:((x.k:Int)==2)=false:=by simp;omega
 by_cases t0:x.t=[102,97,108,115,101]
 ·obtain rfl:A3=0:=Z.symm.trans (jc (k:=0) rfl t0 (by omega));have HE:Qd (fr rec m o q) (.inr (x::r)) ⟨2,0,[],(x.a:Nat),.nil⟩ (.inr r):=pH (by simp only[fr,k1,k2,t0,if_true,if_false]);have ag:x.t≠[]:=by rw[t0];decide
  clear k1 k2 t0 hn ad ac Z V;obtain⟨W,aY,l,aZ,aD,aC,ao,ah,aE,Y,-,d1,-,-,-,-,hf⟩:=I.ok;have E:=I.over (.inl ag) d1;have u:=dX.at (rb:=rb) af 1 (.int .i64 ((W:Int)+1));clear I;go_upto_region 16 with fail;generalize af.setCell ⟨rb,1,FE⟩ (.int .i64 ((W:Int)+1))=L at *;clear d1 hf Y;have B:=u.blk J (by have:=D.size;omega);have C:=D.trans u;have g:=u.blk f (by omega);clear D J f;clear q0 q1 q2 q3 qf;have KE:=C.set5 (b:=w.heap.size) (by omega) (.int .i64 2) (.int .i64 0) (stv []) (.slice FE 0 0) (.int .i64 x.a);have RE:=E.set5 (b:=w.heap.size) (by omega) (.int .i64 2) (.int .i64 0) (stv []) (.slice FE 0 0) (.int .i64 x.a);have U:=eS (.int .i64 2) (.int .i64 0) (stv []) (.slice FE 0 0) (.int .i64 x.a) B;obtain⟨z0,z1,z2,z3,z4,zf⟩:=dT B;obtain⟨u0,u1,u2,u3,u4,-⟩:=dT U;obtain⟨T,S,Q,P,O⟩:=Blk.cells4 (o:=λ_=>0) (i:=0) ⟨g,rfl⟩;have K:=HE;clear U C B E g;go_wp2;exact FL (v:=exV ⟨2,0,[],x.a,.nil⟩ FE 0) (by simp[results,Hi,go_sem,u0,u1,u2,u3,u4,exV,Fs.len]) rfl ⟨_,_,_,_,rfl,Sl.nil _ _ _,RE,KE,K⟩
 by_cases t1:x.t=[116,114,117,101]
 ·obtain rfl:A3=1:=Z.symm.trans (jc (k:=1) rfl t1 (λj t hj ht=>by (obtain rfl:j=0:=by omega);simp at ht;subst ht;decide));have HE:Qd (fr rec m o q) (.inr (x::r)) ⟨2,1,[],(x.a:Nat),.nil⟩ (.inr r):=pH (by simp only[fr,k1,k2,t0,t1,if_true,if_false];rfl);have ag:x.t≠[]:=by rw[t1];decide
  clear k1 k2 t0 t1 hn ad ac Z V;obtain⟨W,aY,l,aZ,aD,aC,ao,ah,aE,Y,-,d1,-,-,-,-,hf⟩:=I.ok;have E:=I.over (.inl ag) d1;have u:=dX.at (rb:=rb) af 1 (.int .i64 ((W:Int)+1));clear I;go_upto_region 16 with fail;generalize af.setCell ⟨rb,1,FE⟩ (.int .i64 ((W:Int)+1))=L at *;clear d1 hf Y;have B:=u.blk J (by have:=D.size;omega);have C:=D.trans u;have g:=u.blk f (by omega);clear D J f;clear q0 q1 q2 q3 qf;have KE:=C.set5 (b:=w.heap.size) (by omega) (.int .i64 2) (.int .i64 1) (stv []) (.slice FE 0 0) (.int .i64 x.a);have RE:=E.set5 (b:=w.heap.size) (by omega) (.int .i64 2) (.int .i64 1) (stv []) (.slice FE 0 0) (.int .i64 x.a);have U:=eS (.int .i64 2) (.int .i64 1) (stv []) (.slice FE 0 0) (.int .i64 x.a) B;obtain⟨z0,z1,z2,z3,z4,zf⟩:=dT B;obtain⟨u0,u1,u2,u3,u4,-⟩:=dT U;obtain⟨T,S,Q,P,O⟩:=Blk.cells4 (o:=λ_=>0) (i:=0) ⟨g,rfl⟩;have K:=HE;clear U C B E g;go_wp2;exact FL (v:=exV ⟨2,1,[],x.a,.nil⟩ FE 0) (by simp[results,Hi,go_sem,u0,u1,u2,u3,u4,exV,Fs.len]) rfl ⟨_,_,_,_,rfl,Sl.nil _ _ _,RE,KE,K⟩
 obtain rfl:A3=-1:=Z.symm.trans (lS (by simp only[GY,GW,or_false];rintro s (rfl|rfl);exact t0;exact t1));by_cases s0:x.t=[64]
 ·obtain rfl:A4=0:=V.symm.trans (jc (k:=0) rfl s0 (by omega));have C1:=(Ctx.start hn).eat (H:=λt=>(gR 1 t).bind λy t1=>.ok ⟨3,y.n,[],(x.a:Nat),.nil⟩ t1) (by simp only[fr,k1,k2,t0,t1,s0,if_true,if_false];rfl);have ag:x.t≠[]:=by rw[s0];decide
  clear k1 k2 t0 t1 s0 hn ad ac Z V;obtain⟨W,aY,l,aZ,aD,aC,ao,ah,aE,Y,-,d1,-,-,-,-,hf⟩:=I.ok;have E:=I.over (.inl ag) d1;have u:=dX.at (rb:=rb) af 1 (.int .i64 ((W:Int)+1));clear I;go_upto_region 19 with fail;generalize af.setCell ⟨rb,1,FE⟩ (.int .i64 ((W:Int)+1))=L at *;clear d1 hf Y;have B:=u.blk J (by have:=D.size;omega);have C:=D.trans u;have g:=u.blk f (by omega);clear D J f;clear q0 q1 q2 q3 qf;cases r with
  | nil=>exact absurd rfl (E.nn [] rfl)
  | cons y r2 =>
  have h3:=E;clear E;obtain⟨aP,aT,bw,bC,bH,bF,bs,bn,bN,a6,d0,d1,-,-,-,⟨t0,t1,t2,t3⟩,hf⟩:=h3.ok;have bz:FP L.heap.size L (L.alloc (.cells #[.int .i64 0,.int .i64 0,.string ⟨#[]⟩,.int .i64 0] 67)):=(FS _ L).alloc (FG _) _;have aq:rb<L.heap.size:=h3.lt;have an:aT<L.heap.size:=by omega
  have a8:=(bz.cell (p:=⟨rb,0,FE⟩) aq).trans d0;have a7:=(bz.cell (p:=⟨rb,1,FE⟩) aq).trans d1;have u0:=(bz.cell (p:=⟨aT,aP*4,FE⟩) an).trans t0;have u1:=(bz.cell (p:=⟨aT,aP*4+1,FE⟩) an).trans t1;have u2:=(bz.cell (p:=⟨aT,aP*4+2,FE⟩) an).trans t2;have u3:=(bz.cell (p:=⟨aT,aP*4+3,FE⟩) an).trans t3;have bp:(aP:Int)<(bC:Int):=by omega
  have aA:=jk L (.cells #[.int .i64 (y.k:Nat),.int .i64 y.n,stv y.t,.int .i64 (y.a:Nat)] 67);clear bz;go_upto_region 19 with fail;go_cut [8] (λv wx=>∃bu,v=.pointer (FF ⟨bu,0,FE⟩)/\L.heap.size<=bu/\wx.heap[bu]?=FF (.cells #[.int .i64 (y.k:Nat),.int .i64 y.n,stv y.t,.int .i64 (y.a:Nat)] 67 (0,0))/\FP L.heap.size L wx)
  case first =>
   go_region
   all_goals
    go_wp2;go_meet;exact⟨_,rfl,FG _,aA.1,aA.2⟩
  case rest =>
  obtain⟨bu,rfl,bK,TU,BU⟩:=hcut;clear t0 t1 t2 t3 d0 d1 hf a6 a8 a7 u0 u1 u2 u3 aA;have az:=dX.ofBelow (rb:=rb) BU;have au:=h3.below BU;have bV:rb<bu:=by have:=h3.lt;omega
  clear h3 BU;have av:=az.blk B (by have:=C.size;omega);have al:=C.trans az;have M:=az.blk g (by omega);clear C B g;obtain⟨T,S,Q,P,O⟩:=Blk.cells4 (o:=λ_=>0) (i:=0) ⟨M,rfl⟩;obtain⟨aL,aK,aJ,aI,aH⟩:=Blk.cells4 (o:=λ_=>0) (i:=0) ⟨TU,rfl⟩;by_cases ky:y.k=1
  ·have HE:=C1.step (AH ky);have HE:=HE.fin;have bB:((y.k:Int)==1)=true:=by simp[ky]
   have bA:((y.k:Int) != 1)=false:=by simp[ky]
   have aR:y.k≠0:=by omega
   clear ky C1;obtain⟨bc,bY,bx,bZ,bI,bG,bv,bo,bO,bd,-,d1,-,-,-,-,hf⟩:=au.ok;have ar:=au.over (.inr aR) d1;have ab:=dX.at (rb:=rb) wc 1 (.int .i64 ((bc:Int)+1));clear au;go_upto_region 24 with fail;generalize wc.setCell ⟨rb,1,FE⟩ (.int .i64 ((bc:Int)+1))=bb at *;clear d1 hf bd;have aj:=ab.blk av (by have:=al.size;omega);have ay:=al.trans ab;have ap:=ab.blk M (by omega);have aW:=ab.blk TU (by omega);clear al av M TU;clear T S Q P O aL aK aJ aI aH;have KE:=ay.set5 (b:=w.heap.size) (by omega) (.int .i64 3) (.int .i64 y.n) (stv []) (.slice FE 0 0) (.int .i64 x.a);have RE:=ar.set5 (b:=w.heap.size) (by omega) (.int .i64 3) (.int .i64 y.n) (stv []) (.slice FE 0 0) (.int .i64 x.a);have U:=eS (.int .i64 3) (.int .i64 y.n) (stv []) (.slice FE 0 0) (.int .i64 x.a) aj;obtain⟨z0,z1,z2,z3,z4,zf⟩:=dT aj;obtain⟨u0,u1,u2,u3,u4,-⟩:=dT U;obtain⟨T,S,Q,P,O⟩:=Blk.cells4 (o:=λ_=>0) (i:=0) ⟨ap,rfl⟩;obtain⟨aL,aK,aJ,aI,aH⟩:=Blk.cells4 (o:=λ_=>0) (i:=0) ⟨aW,rfl⟩;have K:=HE;clear U ay aj ar ap aW;go_wp2;exact FL (v:=exV ⟨3,y.n,[],x.a,.nil⟩ FE 0) (by simp[results,Hi,go_sem,u0,u1,u2,u3,u4,exV,Fs.len]) rfl ⟨_,_,_,_,rfl,Sl.nil _ _ _,RE,KE,K⟩
  ·have HE:=C1.2 fI (.inl (120,y.a)) (oO fI (by simp[gR,ky,Rs.bind]));have bB:((y.k:Int)==1)=false:=by simp;omega
   have bA:((y.k:Int) != 1)=true:=by simp;omega
   clear ky C1 T S Q P O aL aK aJ aI aH;have aU:FW FH 29 #[.pointer (FF ⟨rb,0,FE⟩),.int .i64 120] wc λr' w'=>r'=.returned (.tuple #[])/\QS w' rb all o q (.inl (120,y.a))/\dX rb wc w':=jA 120 (by decide) au;obtain⟨T,S,Q,P,O⟩:=Blk.cells4 (o:=λ_=>0) (i:=0) ⟨M,rfl⟩;obtain⟨aL,aK,aJ,aI,aH⟩:=Blk.cells4 (o:=λ_=>0) (i:=0) ⟨TU,rfl⟩;go_wp2_with fail;refine aU.mono ?_;rintro e bb ⟨rfl,ar,ab⟩;clear aU au M TU T S Q P O aL aK aJ aI aH;have aj:=ab.blk av (by have:=al.size;omega);have ay:=al.trans ab;clear al av;have KE:=ay.set5 (b:=w.heap.size) (by omega) (.int .i64 0) (.int .i64 0) (stv []) (.slice FE 0 0) (.int .i64 0);have RE:=ar.set5 (b:=w.heap.size) (by omega) (.int .i64 0) (.int .i64 0) (stv []) (.slice FE 0 0) (.int .i64 0);have U:=eS (.int .i64 0) (.int .i64 0) (stv []) (.slice FE 0 0) (.int .i64 0) aj;obtain⟨z0,z1,z2,z3,z4,zf⟩:=dT aj;obtain⟨u0,u1,u2,u3,u4,-⟩:=dT U;have K:=HE;clear U ay aj ar;go_wp2;exact FL (v:=exV fI FE 0) (by simp[results,Hi,go_sem,u0,u1,u2,u3,u4,exV,fI,Fs.len]) rfl ⟨_,_,_,_,rfl,Sl.nil _ _ _,RE,KE,K⟩
 by_cases s1:x.t=[40]
 ·obtain rfl:A4=1:=V.symm.trans (jc (k:=1) rfl s1 (λj t hj ht=>by (obtain rfl:j=0:=by omega);simp at ht;subst ht;decide));have C1:=(Ctx.start hn).congr (H:=(λts=>(ej [40] o ts).bind λ_ t1=>(rec 1 (o+1) q t1).bind λe t2=>(eE [41] t2).bind λ_ t4=>.ok e t4)) (λts hs=>by cases hs;simp only[fr,k1,k2,t0,t1,s0,s1,if_true,if_false,iz,jl,Rs.bind_assoc,Rs.ok_bind,I5];rfl);clear k1 k2 t0 t1 s0 s1 hn ad ac Z V;have aa:=kH TI [40] ⟨by decide,by decide⟩ I;go_wp2_with fail;refine aa.mono ?_;rintro e L ⟨c,aB,rfl,E,u,ak⟩;have a9:=C1.step ak;clear aa ak C1;have B:=u.blk J (by have:=D.size;omega);have C:=D.trans u;have g:=u.blk f (by omega);clear D J f;clear q0 q1 q2 q3 qf;have bf:=R _ rb all 1 (o+1) (q) aB TI (by omega) (by omega) E a9.nou;go_wp2_with fail;refine bf.mono ?_;rintro e aM ⟨d,N,G,bE,rfl,bi,au,az,bk⟩;have bm:=a9.step bk;clear bf bk a9;have a4:=bi.low (show (w.heap.size+1)<=_ from (by have:=FJ B;omega));clear bi;have av:=az.blk B (by have:=C.size;omega);have al:=C.trans az;have M:=az.blk g (by omega);clear C B g;have be:=au.alloc (zEx d N G);have aX:=al.alloc (zEx d N G);have a0:=(FT aM (zEx d N G) _ (FJ av)).trans av;have aG:=(FT aM (zEx d N G) _ (FJ M)).trans M;have aV:(GK aM (zEx d N G)).heap[aM.heap.size]?=FF (zEx d N G):=FM aM _;have am:=a4.allocN (zEx d N G);have bM:rb<aM.heap.size:=by have:=al.size;omega
  clear au al av M a4;rw[dU];have aU:=kP TI [41] ⟨by decide,by decide⟩ be;go_wp2_with fail;refine aU.mono ?_;rintro e bb ⟨bR,bD,rfl,ar,ab,bj⟩;have bl:=bm.step bj;clear aU bj bm;have aj:=ab.blk a0 (by have:=aX.size;omega);have ay:=aX.trans ab;have ap:=ab.blk aG (by omega);have aF:=ab.blk aV (by omega);have aw:=am.keepN ab (by omega);clear aX a0 aG aV am;have KE:=ay.set5 (b:=w.heap.size) (by omega) (.int .i64 d.k) (.int .i64 d.n) (stv d.nm) (.slice N d.kids.len G) (.int .i64 d.a);have RE:=ar.set5 (b:=w.heap.size) (by omega) (.int .i64 d.k) (.int .i64 d.n) (stv d.nm) (.slice N d.kids.len G) (.int .i64 d.a);have U:=eS (.int .i64 d.k) (.int .i64 d.n) (stv d.nm) (.slice N d.kids.len G) (.int .i64 d.a) aj;have SE:Sl _ (Nw w.heap.size) _ _:=(aw.set5 (b:=w.heap.size) (by omega) (.int .i64 d.k) (.int .i64 d.n) (stv d.nm) (.slice N d.kids.len G) (.int .i64 d.a)).low (by omega);obtain⟨z0,z1,z2,z3,z4,zf⟩:=dT aj;obtain⟨u0,u1,u2,u3,u4,-⟩:=dT U;obtain⟨aL,aK,aJ,aI,bQ,aH⟩:=dT aF;have K:=bl.fin;clear U bl ay aj ar ap aF aw;go_wp2;exact FL (v:=exV d N G) (by simp[results,Hi,go_sem,u0,u1,u2,u3,u4,exV]) rfl ⟨_,_,_,_,rfl,SE,RE,KE,K⟩
 by_cases s2:x.t=[105,102]
 ·obtain rfl:A4=2:=V.symm.trans (jc (k:=2) rfl s2 (λj t hj ht=>by (obtain rfl|rfl:j=0\/j=1:=by omega)<;>simp at ht<;>subst ht<;>decide));have EQ:∀ ts,(.inr (x::r):Sq)=.inr ts->fr rec m o q ts=gq rec o q ts:=λts hs=>by
   cases hs;simp only[fr,k1,k2,t0,t1,s0,s1,s2,if_true,if_false];rfl
  have HN:=hn.congr EQ;have HC:Hid (∀ X ai,Qd (gq rec o q) (.inr (x::r)) X ai->Qd (fr rec m o q) (.inr (x::r)) X ai):=λX ai q=>q.congr λts hs=>(EQ ts hs).symm;have CC:Hid (∀ wx,QS wx rb all o q (.inr (x::r))->FW FH 162 #[.pointer (FF ⟨rb,0,FE⟩),.int .i64 (x.a:Nat)] wx (f8 rb all o q wx (.inr (x::r)) (gq rec o q))):=λwx hh=>yO R TI s2 hh HN;clear EQ HN k1 k2 t0 t1 s0 s1 s2 hn ad ac Z V q0 q1 q2 q3 qf;obtain⟨T,S,Q,P,O⟩:=Blk.cells4 (o:=λ_=>0) (i:=0) ⟨f,rfl⟩;have aa:=CC.out _ I;go_wp2_with fail;refine aa.mono ?_;rintro e L ⟨c,F,l,aB,rfl,ax,E,u,ak⟩;have HX:=HC.out _ _ ak;clear aa ak I T S Q P O;have ae:=ax.low (show (w.heap.size+1)<=_ from (by have:=FJ J;omega));clear ax;have B:=u.blk J (by have:=D.size;omega);have C:=D.trans u;have g:=u.blk f (by omega);clear D J f;have KE:=C.set5 (b:=w.heap.size) (by omega) (.int .i64 c.k) (.int .i64 c.n) (stv c.nm) (.slice F c.kids.len l) (.int .i64 c.a);have RE:=E.set5 (b:=w.heap.size) (by omega) (.int .i64 c.k) (.int .i64 c.n) (stv c.nm) (.slice F c.kids.len l) (.int .i64 c.a);have U:=eS (.int .i64 c.k) (.int .i64 c.n) (stv c.nm) (.slice F c.kids.len l) (.int .i64 c.a) B;have SE:Sl _ (Nw w.heap.size) _ _:=(ae.set5 (b:=w.heap.size) (by omega) (.int .i64 c.k) (.int .i64 c.n) (stv c.nm) (.slice F c.kids.len l) (.int .i64 c.a)).low (by omega);obtain⟨z0,z1,z2,z3,z4,zf⟩:=dT B;obtain⟨u0,u1,u2,u3,u4,-⟩:=dT U;have K:=HX;clear U C B E g ae;rw[dU];go_wp2;exact FL (v:=exV c F l) (by simp[results,Hi,go_sem,u0,u1,u2,u3,u4,exV]) rfl ⟨_,_,_,_,rfl,SE,RE,KE,K⟩
 obtain rfl:A4=-1:=V.symm.trans (lS (by simp only[GY,GW,or_false];rintro s (rfl|rfl|rfl);exact s0;exact s1;exact s2));cases hc:nS x.t with
 | some z =>
  obtain⟨i,hi,aS,aQ,aN,ag⟩:=xy (r:=r) hc;obtain⟨z0,zn,zm⟩:=z;simp only at aQ aN;subst aQ;obtain rfl:A1=(i:Nat):=ad.symm.trans hi;have bq:(0:Int)<=(i:Int):=by omega
  have EQ:∀ ts,(.inr (x::r):Sq)=.inr ts->fr rec m o q ts=kW rec zm i x.a o q ts:=λts hs=>by
   cases hs;simp only[fr,k1,k2,t0,t1,s0,s1,s2,hc,if_false,kW,List.tail_cons];rfl
  have HN:=hn.congr EQ;have HC:Hid (∀ X ai,Qd (kW rec zm i x.a o q) (.inr (x::r)) X ai->Qd (fr rec m o q) (.inr (x::r)) X ai):=λX ai q=>q.congr λts hs=>(EQ ts hs).symm;have CC:Hid (∀ wx,QS wx rb all o q (.inr (x::r))->FW FH 163 #[.pointer (FF ⟨rb,0,FE⟩),.int .i64 i,.int .i64 (x.a:Nat)] wx (f8 rb all o q wx (.inr (x::r)) (kW rec zm i x.a o q))):=λwx hh=>by
   by_cases h3:i<3
   ·rw[if_pos h3] at aN;subst aN;exact AT R TI ag h3 hh HN
   ·rw[if_neg h3] at aN;subst aN;exact AD R TI ag ⟨by omega,aS⟩ hh HN
  clear EQ HN k1 k2 t0 t1 s0 s1 s2 hn ad ac Z V hc hi aN q0 q1 q2 q3 qf ag;obtain⟨T,S,Q,P,O⟩:=Blk.cells4 (o:=λ_=>0) (i:=0) ⟨f,rfl⟩;have aa:=CC.out _ I;go_wp2_with fail;refine aa.mono ?_;rintro e L ⟨c,F,l,aB,rfl,ax,E,u,ak⟩;have HX:=HC.out _ _ ak;clear aa ak I T S Q P O;have ae:=ax.low (show (w.heap.size+1)<=_ from (by have:=FJ J;omega));clear ax;have B:=u.blk J (by have:=D.size;omega);have C:=D.trans u;have g:=u.blk f (by omega);clear D J f;have KE:=C.set5 (b:=w.heap.size) (by omega) (.int .i64 c.k) (.int .i64 c.n) (stv c.nm) (.slice F c.kids.len l) (.int .i64 c.a);have RE:=E.set5 (b:=w.heap.size) (by omega) (.int .i64 c.k) (.int .i64 c.n) (stv c.nm) (.slice F c.kids.len l) (.int .i64 c.a);have U:=eS (.int .i64 c.k) (.int .i64 c.n) (stv c.nm) (.slice F c.kids.len l) (.int .i64 c.a) B;have SE:Sl _ (Nw w.heap.size) _ _:=(ae.set5 (b:=w.heap.size) (by omega) (.int .i64 c.k) (.int .i64 c.n) (stv c.nm) (.slice F c.kids.len l) (.int .i64 c.a)).low (by omega);obtain⟨z0,z1,z2,z3,z4,zf⟩:=dT B;obtain⟨u0,u1,u2,u3,u4,-⟩:=dT U;have K:=HX;clear U C B E g ae;rw[dU];go_wp2;exact FL (v:=exV c F l) (by simp[results,Hi,go_sem,u0,u1,u2,u3,u4,exV]) rfl ⟨_,_,_,_,rfl,SE,RE,KE,K⟩
 | none =>
 obtain rfl:A1=-1:=ad.symm.trans (wN hc);cases aO:lB x.t with
 | some z =>
  obtain⟨i,hi,aS,aQ,ag⟩:=tQ (r:=r) aO;obtain⟨z0,zn⟩:=z;simp only at aQ;subst aQ;obtain rfl:A2=(i:Nat):=ac.symm.trans hi;have bq:(0:Int)<=(i:Int):=by omega
  have EQ:∀ ts,(.inr (x::r):Sq)=.inr ts->fr rec m o q ts=ge rec m x.t (i+1) o q ts:=λts hs=>by
   cases hs;simp only[fr,k1,k2,t0,t1,s0,s1,s2,hc,aO,if_false]
  have HN:=hn.congr EQ;have HC:Hid (∀ X ai,Qd (ge rec m x.t (i+1) o q) (.inr (x::r)) X ai->Qd (fr rec m o q) (.inr (x::r)) X ai):=λX ai q=>q.congr λts hs=>(EQ ts hs).symm;have CC:Hid (∀ wx,QS wx rb all o q (.inr (x::r))->FW FH 164 #[.pointer (FF ⟨rb,0,FE⟩),.int .i64 i,.int .i64 (x.a:Nat)] wx (f8 rb all o q wx (.inr (x::r)) (ge rec m x.t (i+1) o q))):=λwx hh=>BI R RS TI ag aS hh HN;clear EQ HN k1 k2 t0 t1 s0 s1 s2 hn ad ac Z V hc aO hi q0 q1 q2 q3 qf ag;obtain⟨T,S,Q,P,O⟩:=Blk.cells4 (o:=λ_=>0) (i:=0) ⟨f,rfl⟩;have aa:=CC.out _ I;go_wp2_with fail;refine aa.mono ?_;rintro e L ⟨c,F,l,aB,rfl,ax,E,u,ak⟩;have HX:=HC.out _ _ ak;clear aa ak I T S Q P O;have ae:=ax.low (show (w.heap.size+1)<=_ from (by have:=FJ J;omega));clear ax;have B:=u.blk J (by have:=D.size;omega);have C:=D.trans u;have g:=u.blk f (by omega);clear D J f;have KE:=C.set5 (b:=w.heap.size) (by omega) (.int .i64 c.k) (.int .i64 c.n) (stv c.nm) (.slice F c.kids.len l) (.int .i64 c.a);have RE:=E.set5 (b:=w.heap.size) (by omega) (.int .i64 c.k) (.int .i64 c.n) (stv c.nm) (.slice F c.kids.len l) (.int .i64 c.a);have U:=eS (.int .i64 c.k) (.int .i64 c.n) (stv c.nm) (.slice F c.kids.len l) (.int .i64 c.a) B;have SE:Sl _ (Nw w.heap.size) _ _:=(ae.set5 (b:=w.heap.size) (by omega) (.int .i64 c.k) (.int .i64 c.n) (stv c.nm) (.slice F c.kids.len l) (.int .i64 c.a)).low (by omega);obtain⟨z0,z1,z2,z3,z4,zf⟩:=dT B;obtain⟨u0,u1,u2,u3,u4,-⟩:=dT U;have K:=HX;clear U C B E g ae;rw[dU];go_wp2;exact FL (v:=exV c F l) (by simp[results,Hi,go_sem,u0,u1,u2,u3,u4,exV]) rfl ⟨_,_,_,_,rfl,SE,RE,KE,K⟩
 | none =>
 obtain rfl:A2=-1:=ac.symm.trans (tn aO);have HE:Qd (fr rec m o q) (.inr (x::r)) fI (.inl (120,x.a)):=oO fI (by simp only[fr,k1,k2,t0,t1,s0,s1,s2,hc,aO,if_false]);clear k1 k2 t0 t1 s0 s1 s2 hn ad ac Z V hc aO q0 q1 q2 q3 qf;have aa:FW FH 29 #[.pointer (FF ⟨rb,0,FE⟩),.int .i64 120] af λr' w'=>r'=.returned (.tuple #[])/\QS w' rb all o q (.inl (120,x.a))/\dX rb af w':=jA 120 (by decide) I;obtain⟨T,S,Q,P,O⟩:=Blk.cells4 (o:=λ_=>0) (i:=0) ⟨f,rfl⟩;go_wp2_with fail;refine aa.mono ?_;rintro e L ⟨rfl,E,u⟩;clear aa I f T S Q P O;have B:=u.blk J (by have:=D.size;omega);have C:=D.trans u;clear D J;have KE:=C.set5 (b:=w.heap.size) (by omega) (.int .i64 0) (.int .i64 0) (stv []) (.slice FE 0 0) (.int .i64 0);have RE:=E.set5 (b:=w.heap.size) (by omega) (.int .i64 0) (.int .i64 0) (stv []) (.slice FE 0 0) (.int .i64 0);have U:=eS (.int .i64 0) (.int .i64 0) (stv []) (.slice FE 0 0) (.int .i64 0) B;obtain⟨z0,z1,z2,z3,z4,zf⟩:=dT B;obtain⟨u0,u1,u2,u3,u4,-⟩:=dT U;have K:=HE;clear U C B E;go_wp2;exact FL (v:=exV fI FE 0) (by simp[results,Hi,go_sem,u0,u1,u2,u3,u4,exV,fI,Fs.len]) rfl ⟨_,_,_,_,rfl,Sl.nil _ _ _,RE,KE,K⟩
theorem yh {n row o q:Nat}(a:row=1\/row=2\/row=4\/row=5\/row=6):fH (n+1) row o q=λts=>(fH n (row+1) o q ts).bind λl t=>fM (fH n) n row o q l t:=by
 funext ts;rcases a with rfl|rfl|rfl|rfl|rfl<;>rfl
theorem uN:∀ n,n<=1000000->lN (fH n)/\CY (fH n)
 | 0,_=>⟨λw rb all row o q st c h1 f h b=>by
   match st,h,b with
   | .inl (er,a),h,b=>exact vj _ h
   | .inr ts,h,b=>exact absurd rfl (b ts rfl),λw rb all o q x r c h b=>absurd rfl (b _ rfl)⟩
 | n+1,j=>by
  obtain⟨R,i⟩:=uN n (by omega);refine⟨λw rb all row o q st c h1 f h b=>?_,λw rb all o q x r c h b=>?_⟩
  ·match st,h,b with
   | .inl (er,a),h,b=>exact vj _ h
   | .inr [],h,b=>exact absurd rfl (h.nn [] rfl)
   | .inr (x::r),h,b =>
    by_cases g:row=3
    ·subst g;exact Et R c h b
    ·by_cases d:row=7
     ·subst d;exact EX R i c h b
     ·have e:row=1\/row=2\/row=4\/row=5\/row=6:=by omega
      rw[yh e] at b ⊢;exact EW R e c h b
  ·exact Dn R (Ey R (by omega)) c h b
def ye (x:Tk):Prop:=(x.k=0/\x.t=[])\/(x.k=1/\x.t=[])\/(x.k=2/\eD x.t=true)\/(x.k=3/\gM x.t=true)\/(x.k=4/\x.t≠[])
theorem yd {k:Nat}{t:List UInt8}{a:Nat}{x:Tk}(h:jq k t a=.inr x)(c:t≠[]):ye x:=by
 unfold jq at h;split at h
 ·unfold jm at h;split at h
  ·rename_i b
   injection h with h
   subst h;exact .inr (.inr (.inr (.inl ⟨rfl,b⟩)))
  ·split at h
   ·rename_i d
    injection h with h
    subst h;exact .inr (.inr (.inl ⟨rfl,d⟩))
   ·cases h
 ·unfold ki at h;split at h
  ·split at h
   ·cases h
   ·injection h with h
    subst h;exact .inr (.inl ⟨rfl,rfl⟩)
  ·cases h
 ·unfold oT at h;split at h
  ·cases h
  ·injection h with h
   subst h;exact .inr (.inr (.inr (.inr ⟨rfl,c⟩)))
 ·cases h
theorem FB (k:Nat)(t:List UInt8)(a p:Nat)(l:List UInt8)(ts:List Tk)(h:eZ k t a p l=.inr ts)(e:k=0\/t≠[]):∀ x,x ∈ ts->ye x:=by
 induction l generalizing k t a p ts with
 | nil =>
  intro x b;unfold eZ at h;rcases fv h with ⟨_,h2⟩|⟨g,y,i,f,h2,rfl⟩
  ·unfold rQ at h2;injection h2 with h2
   subst h2;simp at b;subst b;exact .inl ⟨rfl,rfl⟩
  ·unfold rQ at h2;injection h2 with h2
   subst h2;simp at b;rcases b with rfl|rfl
   ·exact yd f (by rcases e with h|h;exact absurd h g;exact h)
   ·exact .inl ⟨rfl,rfl⟩
 | cons c r d =>
  unfold eZ at h;split at h
  ·exact d _ _ _ _ _ h (by rcases e with h|h;exact .inl h;exact .inr (by simp))
  ·rcases fv h with ⟨_,h2⟩|⟨g,y,i,f,h2,rfl⟩
   ·exact d _ _ _ _ _ h2 (.inr (by simp))
   ·intro x b;rcases List.mem_cons.1 b with rfl|b
    ·exact yd f (by rcases e with h|h;exact absurd h g;exact h)
    ·exact d _ _ _ _ _ h2 (.inr (by simp)) x b
theorem Ek {l:List UInt8}{ts:List Tk}(h:io l=.inr ts):∀ x,x ∈ ts->ye x:=FB _ _ _ _ _ _ (mf h).2.1 (.inl rfl)
theorem ye.is {x:Tk}(h:ye x){s:List UInt8}(b:s≠[])(c:eD s=false):((x.k==3||x.k==4)&&x.t==s)=(x.t==s):=by
 by_cases e:x.t=s
 ·have h2:x.k=3\/x.k=4:=by
   rcases h with ⟨_,h⟩|⟨_,h⟩|⟨_,h⟩|⟨h,_⟩|⟨h,_⟩
   ·rw[h] at e;exact absurd e.symm b
   ·rw[h] at e;exact absurd e.symm b
   ·rw[e,c] at h;cases h
   ·exact .inl h
   ·exact .inr h
  rcases h2 with h2|h2<;>simp[h2,e]
 ·simp[e]
theorem zw (s:ByteArray)(q:Nat):(s.extract 0 q).data.toList=s.data.toList.take q:=by
 rw[lI];simp
def Pce (k:Nat)(u:List UInt8):Prop:=k≠0/\∃c r,u=c::r/\cls c.toNat=k/\∀ j (h:j<r.length),tks k (c::r.take j) (r[j]).toNat=true
theorem xM {r:Nat}:cls r=0 ↔ blk r=true:=by
 unfold cls;constructor
 ·intro h;by_cases a:blk r=true
  ·exact a
  ·rw[if_neg a] at h
   repeat' split at h
   all_goals omega
 ·intro h;rw[if_pos h]
theorem Pce.one (c:UInt8)(h:cls c.toNat≠0):Pce (cls c.toNat) [c]:=⟨h,c,[],rfl,rfl,λj h=>by simp at h⟩
theorem Pce.more {k:Nat}{u:List UInt8}(h:Pce k u)(c:UInt8)(a:tks k u c.toNat=true):Pce k (u++[c]):=by
 obtain⟨f,d,r,rfl,h1,h2⟩:=h;refine⟨f,d,r++[c],rfl,h1,λj b=>?_⟩;by_cases e:j<r.length
 ·rw[List.getElem_append_left e,List.take_append_of_le_length (by omega)];exact h2 j e
 ·have g:j=r.length:=by simp at b;omega
  subst g;rw[List.getElem_append_right (by omega)];simp only[I5,List.getElem_singleton];rw[List.take_append_of_le_length (by omega),IZ];exact a
theorem AU (l:List UInt8):(⟨l.toArray⟩:ByteArray).size=l.length:=by show l.toArray.size=_;simp
theorem Pce.reads {k:Nat}{u:List UInt8}(h:Pce k u)(q:Nat)(m:List UInt8)(b:∀ c r,m=c::r->tks k u c.toNat=false):eZ 0 [] q q (u++m)=fU k u q (eZ 0 [] (q+u.length) (q+u.length) m):=by
 obtain⟨g,d,r,rfl,h1,h2⟩:=h;have f:blk d.toNat=false:=by
  rw[<-Hm,<-xM,h1];exact g
 rw[Hr,fZ (k:=0) (by exact f),h1];show eZ k [d] q (q+1) (r++m)=_;rw[Ae k [d] q (q+1) r m (λj h=>h2 j h) (λc' a e=>b c' a e)];have i:q+1+r.length=q+(d::r).length:=by simp;omega
 rw[i];rfl
theorem pE {k:Nat}(h:k=1\/k=2)(t a:List UInt8)(c:Nat):tks k t c=tks k a c:=by
 rcases h with rfl|rfl<;>rfl
theorem uZ (t:List UInt8)(r:Nat):tks 3 t r=(r==61&&(t==[33]||t==[60])):=rfl
theorem xQ (l:List UInt8)(k a e:Nat)(c:k=1\/k=2)(m:a<e)(h1:e<=l.length)(g:cls (l[a]'(by omega)).toNat=k)(b:∀ j (h:j<l.length),a<=j->j<e->tks k [] (l[j]).toNat=true) :
  Pce k ((l.drop a).take (e-a)):=by
 have i:e-a=(e-(a+1))+1:=by omega
 refine⟨by omega,l[a]'(by omega),(l.drop (a+1)).take (e-(a+1)),?_,g,λj f=>?_⟩
 ·rw[lQ l a (by omega),i,List.take_succ_cons]
 ·rw[pE c _ []];have d:j<e-(a+1):=by simp at f;omega
  rw[List.getElem_take,List.getElem_drop];exact b _ _ (by omega) (by omega)
theorem uC (l:List UInt8)(a e:Nat)(b:a<e)(h1:e<=l.length):((l.drop a).take (e-a)).length=e-a:=by
 simp;omega
theorem oB (l:List UInt8)(k a e:Nat)(m:k=1\/k=2)(n:a<e)(h1:e<=l.length)(p:cls (l[a]'(by omega)).toNat=k)(g:∀ j (h:j<l.length),a<=j->j<e->tks k [] (l[j]).toNat=true)
  (f:∀ h:e<l.length,tks k [] (l[e]).toNat=false):eZ 0 [] a a (l.drop a)=fU k ((l.drop a).take (e-a)) a (eZ 0 [] e e (l.drop e)):=by
 have q:=xQ l k a e m n h1 p g;have o:l.drop a=(l.drop a).take (e-a)++l.drop e:=by
  have h2:=(IN (e-a) (l.drop a)).symm;rw[List.drop_drop] at h2;have t:a+(e-a)=e:=by omega
  rw[t] at h2;exact h2
 have i:=q.reads a (l.drop e) (λc r d=>by
  have b:e<l.length:=by
   by_cases b:e<l.length
   ·exact b
   ·rw[List.drop_eq_nil_of_le (by omega)] at d;cases d
  rw[lQ l e b] at d;injection d with h2 u
  rw[<-h2,pE m _ []];exact f b)
 rw[<-o] at i;rw[i,uC l a e n h1];have s:a+(e-a)=e:=by omega
 rw[s]
def EP (a:Nat)(c:UInt8):Nat:=a*10+(c.toNat-48)
def gS (a:Nat)(l:List UInt8):Nat:=l.foldl EP a
theorem iK (a:Nat)(c:UInt8)(r:List UInt8):gS a (c::r)=gS (a*10+(c.toNat-48)) r:=by
 unfold gS;rw[List.foldl_cons];rfl
theorem iM (a:Nat):gS a []=a:=by
 unfold gS;rw[List.foldl_nil]
def te (l:List UInt8):Prop:=∀ c,c ∈ l->48<=c.toNat/\c.toNat<=57
theorem BC (a:Nat)(l:List UInt8):a*10 ^ l.length<=gS a l:=by
 induction l generalizing a with
 | nil =>
  rw[Hj,Nat.pow_zero,Nat.mul_one,iM];exact FG _
 | cons c r b =>
  rw[iK,Gg];refine Gw ?_ (b _);rw[Nat.pow_succ,Nat.mul_comm (10 ^ r.length) 10,<-Nat.mul_assoc];exact Nat.mul_le_mul_right _ (by omega)
theorem pS (a:Nat)(l:List UInt8):a<=gS a l:=by
 induction l generalizing a with
 | nil =>
  rw[iM];exact FG _
 | cons c r b =>
  rw[iK];exact Gw (by omega) (b _)
theorem mZ (a:Nat)(l m:List UInt8):gS a (l++m)=gS (gS a l) m:=by
 unfold gS;rw[List.foldl_append]
theorem yy (a:Nat)(l:List UInt8)(b:te l)(h:gS a l<18446744073709551616):Iq a l=.ok (gS a l):=by
 induction l generalizing a with
 | nil =>
  rw[iM];rfl
 | cons c r e =>
  have g:=b c (by simp);rw[iK] at h ⊢;have i:=pS (a*10+(c.toNat-48)) r;simp only[Iq];rw[if_pos g,if_neg (by omega),if_neg (by omega)];exact e _ (λd f=>b d (by simp[f])) h
theorem vT (a:Nat)(l:List UInt8)(b:te l)(u:Nat)(h:Iq a l=.ok u):u=gS a l:=by
 induction l generalizing a with
 | nil =>
  simp only[Iq] at h;injection h with h
  rw[iM];exact h.symm
 | cons c r e =>
  have g:=b c (by simp);rw[iK];simp only[Iq] at h;rw[if_pos g] at h;split at h
  ·cases h
  ·split at h
   ·cases h
   ·exact e _ (λd f=>b d (by simp[f])) h
theorem mv {l:List UInt8}(e:te l)(g:l≠[]):(gS 0 l<9223372036854775808->IU l=.ok (gS 0 l:Nat))/\(9223372036854775808<=gS 0 l->∀ v,IU l≠.ok v):=by
 cases l with
 | nil=>exact absurd rfl g
 | cons c r =>
  have j:=e c (by simp);have d:¬(c.toNat=43\/c.toNat=45):=by omega
  have f:Lib.parseMag (c::r)=Iq 0 (c::r):=by
   unfold Lib.parseMag;rw[if_neg (by simp)]
  constructor
  ·intro h;have b:=yy 0 (c::r) e (by omega);unfold IU;simp only;rw[if_neg d,f,b];simp only;rw[if_neg (by omega),if_neg (by omega),if_neg (by omega)]
  ·intro h v a;unfold IU at a;simp only at a;rw[if_neg d,f] at a;cases b:Iq 0 (c::r) with
   | ok u =>
    rw[b] at a;simp only at a;have i:=vT 0 (c::r) e u b;rw[if_pos (by omega)] at a;cases a
   | _=>rw[b] at a;cases a
theorem uE {l:List UInt8}(h:∀ v,IU l≠.ok v)(a:Nat):ki l a=.inl 111:=by
 unfold ki;split
 ·rename_i v b
  exact absurd b (h v)
 ·rfl
theorem pM {l:List UInt8}(h1:l.head?=FF 48)(h2:1<l.length)(a:Nat):ki l a=.inl 111:=by
 unfold ki;have b:l≠[48]:=λe=>by rw[e] at h2;simp at h2
 split
 ·rw[if_pos ⟨h1,b⟩]
 ·rfl
theorem zh {l:List UInt8}(e:te l)(d:l≠[])(h1:l.head?≠FF 48\/l.length<=1)(h2:gS 0 l<9223372036854775808)(a:Nat):ki l a=.inr ⟨1,(gS 0 l:Nat),[],a⟩:=by
 unfold ki;rw[(mv e d).1 h2];simp only;rw[if_neg];rintro ⟨b,f⟩;rcases h1 with h1|h1
 ·exact h1 b
 ·apply f;cases l with
  | nil=>exact absurd rfl d
  | cons c r =>
   simp at h1 b;rw[h1,b]
theorem wt {l:List UInt8}(b:te l)(h:19<l.length)(a:Nat):ki l a=.inl 111:=by
 cases l with
 | nil=>simp at h
 | cons c r =>
  by_cases d:c=48
  ·exact pM (by rw[d];rfl) (by omega) a
  ·refine uE ((mv b (by simp)).2 ?_) a;have h1:=b c (by simp);have h2:1<=c.toNat-48:=by
    by_cases e:c.toNat=48
    ·exact absurd (Ig e) d
    ·omega
   have i:=BC (0*10+(c.toNat-48)) r;rw[iK];have g:10 ^ 19<=10 ^ r.length:=Nat.pow_le_pow_right (by omega) (by simp at h;omega);have h5:1*10 ^ r.length<=(0*10+(c.toNat-48))*10 ^ r.length:=Nat.mul_le_mul_right _ (by omega);have f:(10:Nat) ^ 19=10000000000000000000:=by decide
   omega
def pT (l:List UInt8)(k b e:Nat):Prop:=b<e/\e<=l.length/\(∀ j (h:j<l.length),b<=j->j<e->tks k [] (l[j]).toNat=true)/\(∀ h:e<l.length,tks k [] (l[e]).toNat=false)
theorem D2 (s:ByteArray)(at0:Nat)(w:FI)(hat:at0<s.size)(hs:s.size<=2000)(hd:dig (s[at0]).toNat=true) :
  FW FH 96 #[.string s,.int .i64 (at0:Nat)] w λe w'=>∃e0:Nat,e=.returned (.int .i64 (e0:Nat))/\pT s.data.toList 2 at0 e0/\w'=w:=by
 have HL:Hid (s.data.toList.length=s.size):=fa s;have hb0:(s[at0]'hat).toNat<256:=Hb _;have hatI:(at0:Int)<(s.size:Int):=by omega
 have HD:=FQ hd;go_enter Tryz.func96,Tryz.ntmps96;go_wp2_with (go_at_call 95;refine(iX _ _ hb0).mono ?_;rw[hd];rintro e w1 ⟨rfl,rfl⟩);clear hd;go_loopw [1] (λv wr=>∃k:Nat,v=.int .i64 (k:Nat)/\at0<=k/\k<=s.size/\(∀ j (h:j<s.data.toList.length),at0<=j->j<k->dig (s.data.toList[j]).toNat=true)/\wr=w1) (λv _=>s.size-(Gq v).toNat)
 case atStart=>exact⟨at0,by go_num,by omega,by omega,λj _ h1 h2=>by omega,rfl⟩
 case round =>
  obtain⟨k,rfl,h1,h2,hin,rfl⟩:=hrel;by_cases hlt:k<s.size
  ·have hkl:k<s.data.toList.length:=by have:=HL.out;omega
   have hkI:(k:Int)<(s.size:Int):=by omega
   have hbk:(s[k]'hlt).toNat<256:=Hb _;have hge:=eX s k hlt hkl;cases h3:dig (s[k]'hlt).toNat
   ·have fin:pT s.data.toList 2 at0 k:=by
     refine⟨?_,by omega,hin,λh=>?_⟩
     ·by_cases e:at0=k
      ·subst e;rw[HD.out] at h3;cases h3
      ·omega
     ·show dig _=false;rw[hge];exact h3
    have HF:=FQ fin;clear fin hin hge;go_wp2_with (go_at_call 95;refine(iX _ _ hbk).mono ?_;rw[h3];rintro e w1 ⟨rfl,rfl⟩);go_ret;exact⟨k,rfl,HF.out,rfl⟩
   ·have RL:∀ j (h:j<s.data.toList.length),at0<=j->j<k+1->dig (s.data.toList[j]).toNat=true:=λj h h4 h5=>by
     by_cases e:j=k
     ·subst e;rw[hge];exact h3
     ·exact hin j h h4 (by omega)
    clear hin hge;go_wp2_with (go_at_call 95;refine(iX _ _ hbk).mono ?_;rw[h3];rintro e w1 ⟨rfl,rfl⟩);go_roundw
    case rel=>(try ((repeat apply Gc);refine⟨?_,rfl⟩));exact⟨k+1,by go_num,by omega,by omega,RL,by trivial⟩
    case measure=>simp[Gq];omega
  ·have hkI:¬(k:Int)<(s.size:Int):=by omega
   have HF:Hid (pT s.data.toList 2 at0 k):=⟨by omega,by have:=HL.out;omega,hin,λh=>by have:=HL.out;omega⟩;clear hin;go_wp2;go_ret;exact⟨k,rfl,HF.out,rfl⟩
theorem lH (r:Nat):ltr r=(sml r||grt r):=rfl
theorem yg (s:ByteArray)(at0:Nat)(w:FI)(hat:at0<s.size)(hs:s.size<=2000)(hd:dig (s[at0]).toNat=false)(hl:ltr (s[at0]).toNat=true) :
  FW FH 96 #[.string s,.int .i64 (at0:Nat)] w λe w'=>∃e0:Nat,e=.returned (.int .i64 (e0:Nat))/\pT s.data.toList 1 at0 e0/\w'=w:=by
 have HL:Hid (s.data.toList.length=s.size):=fa s;have hb0:(s[at0]'hat).toNat<256:=Hb _;have hatI:(at0:Int)<(s.size:Int):=by omega
 have HD:=FQ hl;go_enter Tryz.func96,Tryz.ntmps96;go_wp2_with (go_at_call 95;refine(iX _ _ hb0).mono ?_;rw[hd];rintro e w1 ⟨rfl,rfl⟩);clear hd hl;go_loopw [1] (λv wr=>∃k:Nat,v=.int .i64 (k:Nat)/\at0<=k/\k<=s.size/\(∀ j (h:j<s.data.toList.length),at0<=j->j<k->tks 1 [] (s.data.toList[j]).toNat=true)/\wr=w1) (λv _=>s.size-(Gq v).toNat)
 case atStart=>exact⟨at0,by go_num,by omega,by omega,λj _ h1 h2=>by omega,rfl⟩
 case round =>
  obtain⟨k,rfl,h1,h2,hin,rfl⟩:=hrel;by_cases hlt:k<s.size
  ·have hkl:k<s.data.toList.length:=by have:=HL.out;omega
   have hkI:(k:Int)<(s.size:Int):=by omega
   have hbk:(s[k]'hlt).toNat<256:=Hb _;have hge:=eX s k hlt hkl;have HG:Hid (tks 1 [] (s[k]'hlt).toNat=true->∀ j (h:j<s.data.toList.length),at0<=j->j<k+1->tks 1 [] (s.data.toList[j]).toNat=true):=λh3 j h h4 h5=>by
    by_cases e:j=k
    ·subst e;rw[hge];exact h3
    ·exact hin j h h4 (by omega)
   have HE:Hid (tks 1 [] (s[k]'hlt).toNat=false->pT s.data.toList 1 at0 k):=λh3=>by
    refine⟨?_,by omega,hin,λh=>?_⟩
    ·by_cases e:at0=k
     ·subst e;have h4:=HD.out;simp[tks,h4] at h3
     ·omega
    ·rw[hge];exact h3
   clear hin hge;cases h3:sml (s[k]'hlt).toNat
   ·cases h4:grt (s[k]'hlt).toNat
    ·cases h5:dig (s[k]'hlt).toNat
     ·by_cases h6:(s[k]'hlt).toNat=95
      ·have RL:=HG.out (by simp[tks,h6]);have H6:=FQ h6;clear HG HE h6;go_wp2_with (first|(go_at_call 98;refine(i7 _ _ hbk).mono ?_;rw[h3];rintro e w1 ⟨rfl,rfl⟩)|(go_at_call 99;refine(p7 _ _ hbk).mono ?_;rw[h4];rintro e w1 ⟨rfl,rfl⟩)|(go_at_call 95;refine(iX _ _ hbk).mono ?_;rw[h5];rintro e w1 ⟨rfl,rfl⟩;have h6:=H6.out;clear h3 h4 h5 hbk));go_roundw
       case rel=>(try ((repeat apply Gc);refine⟨?_,rfl⟩));exact⟨k+1,by go_num,by omega,by omega,RL,by trivial⟩
       case measure=>simp[Gq];omega
      ·have fin:=HE.out (by simp[tks,lH,h3,h4,h5,h6]);have HF:=FQ fin;have h6I:¬((s[k]'hlt).toNat:Int)=95:=by omega
       have h6B:(((s[k]'hlt).toNat:Int)==95)=false:=by simpa using h6I
       clear HG HE h6 fin;go_wp2_with (first|(go_at_call 98;refine(i7 _ _ hbk).mono ?_;rw[h3];rintro e w1 ⟨rfl,rfl⟩)|(go_at_call 99;refine(p7 _ _ hbk).mono ?_;rw[h4];rintro e w1 ⟨rfl,rfl⟩)|(go_at_call 95;refine(iX _ _ hbk).mono ?_;rw[h5];rintro e w1 ⟨rfl,rfl⟩));go_ret;exact⟨k,rfl,HF.out,rfl⟩
     ·have RL:=HG.out (by simp[tks,h5]);clear HG HE;go_wp2_with (first|(go_at_call 98;refine(i7 _ _ hbk).mono ?_;rw[h3];rintro e w1 ⟨rfl,rfl⟩)|(go_at_call 99;refine(p7 _ _ hbk).mono ?_;rw[h4];rintro e w1 ⟨rfl,rfl⟩)|(go_at_call 95;refine(iX _ _ hbk).mono ?_;rw[h5];rintro e w1 ⟨rfl,rfl⟩));go_roundw
      case rel=>(try ((repeat apply Gc);refine⟨?_,rfl⟩));exact⟨k+1,by go_num,by omega,by omega,RL,by trivial⟩
      case measure=>simp[Gq];omega
    ·have RL:=HG.out (by simp[tks,lH,h4]);clear HG HE;go_wp2_with (first|(go_at_call 98;refine(i7 _ _ hbk).mono ?_;rw[h3];rintro e w1 ⟨rfl,rfl⟩)|(go_at_call 99;refine(p7 _ _ hbk).mono ?_;rw[h4];rintro e w1 ⟨rfl,rfl⟩));go_roundw
     case rel=>(try ((repeat apply Gc);refine⟨?_,rfl⟩));exact⟨k+1,by go_num,by omega,by omega,RL,by trivial⟩
     case measure=>simp[Gq];omega
   ·have RL:=HG.out (by simp[tks,lH,h3]);clear HG HE;go_wp2_with (go_at_call 98;refine(i7 _ _ hbk).mono ?_;rw[h3];rintro e w1 ⟨rfl,rfl⟩);go_roundw
    case rel=>(try ((repeat apply Gc);refine⟨?_,rfl⟩));exact⟨k+1,by go_num,by omega,by omega,RL,by trivial⟩
    case measure=>simp[Gq];omega
  ·have hkI:¬(k:Int)<(s.size:Int):=by omega
   have HF:Hid (pT s.data.toList 1 at0 k):=⟨by omega,by have:=HL.out;omega,hin,λh=>by have:=HL.out;omega⟩;clear hin;go_wp2;go_ret;exact⟨k,rfl,HF.out,rfl⟩
def oe (l:List UInt8)(v:Int)(b:Bool):Prop:=(b=true/\∀ a,ki l a=.inr ⟨1,v,[],a⟩)\/(b=false/\v=0/\∀ a,ki l a=.inl 111)
def Bs (l:List UInt8)(e:Hk):Prop:=∃v b,e=.returned (.tuple #[.int .i64 v,.bool b])/\oe l v b
theorem pA (l:List UInt8)(i:Nat)(h:i<l.length):gS 0 (l.take (i+1))=gS 0 (l.take i)*10+((l[i]).toNat-48):=by
 rw[List.take_add_one,FN h];show gS 0 (l.take i++[l[i]])=_;rw[mZ,iK,iM]
theorem mi (l:List UInt8)(i:Nat):gS 0 (l.take i)<=gS 0 l:=by
 have h:=IN i l;have h2:=mZ 0 (l.take i) (l.drop i);rw[h] at h2;rw[h2];exact pS _ _
theorem yB (s:ByteArray)(w:FI)(h0:0<s.size)(hs:s.size<=2000)(hD:te s.data.toList) :
  FW FH 97 #[.string s] w λe w'=>Bs s.data.toList e/\w'=w:=by
 have HL:Hid (s.data.toList.length=s.size):=fa s;have hne:s.data.toList≠[]:=λe=>by have:=HL.out;rw[e] at this;simp at this;omega
 have hh:=Ca s h0;by_cases h19:19<s.size
 ·have fin:oe s.data.toList 0 false:=.inr ⟨rfl,rfl,λa=>wt hD (by rw[HL.out];exact h19) a⟩;have HF:=FQ fin;have hI:(19:Int)<(s.size:Int):=by omega
  clear fin hh;go_enter Tryz.func97,Tryz.ntmps97;go_wp2;go_ret2;exact⟨⟨_,_,rfl,HF.out⟩,rfl⟩
 ·have hI:¬(19:Int)<(s.size:Int):=by omega
  have hb0:(s[0]'h0).toNat<256:=Hb _;by_cases hlead:1<s.size/\(s[0]'h0).toNat=48
  ·obtain⟨h1,h48⟩:=hlead;have h5:s[0]'h0=48:=Ig h48;have fin:oe s.data.toList 0 false:=.inr ⟨rfl,rfl,λa=>pM (by rw[hh,h5]) (by rw[HL.out];exact h1) a⟩;have HF:=FQ fin;have h1I:(1:Int)<(s.size:Int):=by omega
   clear fin hh h5;go_enter Tryz.func97,Tryz.ntmps97;go_wp2;go_ret2;exact⟨⟨_,_,rfl,HF.out⟩,rfl⟩
  ·have HY:Hid (gS 0 s.data.toList<9223372036854775808->oe s.data.toList (gS 0 s.data.toList:Nat) true):=λh=>by
    refine .inl ⟨rfl,λa=>zh hD hne ?_ h a⟩;by_cases h1:1<s.size
    ·left
     rw[hh];intro e;injection e with e
     exact hlead ⟨h1,by rw[e];rfl⟩
    ·right
     rw[HL.out];omega
   have HX:Hid (9223372036854775808<=gS 0 s.data.toList->oe s.data.toList 0 false):=λh=>.inr ⟨rfl,rfl,λa=>uE ((mv hD hne).2 h) a⟩;have HDD:=FQ hD;by_cases h1:1<s.size
   ·have h1I:(1:Int)<(s.size:Int):=by omega
    have h48I:¬((s[0]'h0).toNat:Int)=48:=by
     intro e;exact hlead ⟨h1,by omega⟩
    have h48B:(((s[0]'h0).toNat:Int)==48)=false:=by simpa using h48I
    clear hlead hh;go_enter Tryz.func97,Tryz.ntmps97;go_wp2;go_loopw [4,5] (λv4 v5 wr=>∃k n:Nat,v5=.int .i64 (k:Nat)/\v4=.int .i64 (n:Nat)/\k<=s.size/\n=gS 0 (s.data.toList.take k)/\n<9223372036854775808/\wr=w) (λ_ v _=>s.size-(Gq v).toNat)
    case atStart=>exact⟨0,0,by go_num,by go_num,by omega,by rw[List.take_zero,iM],by omega,rfl⟩
    case round =>
     obtain⟨k,n,rfl,rfl,hk,hn,hnb,rfl⟩:=hrel;have HN:=FQ hn;clear hn;by_cases hlt:k<s.size
     ·have hkl:k<s.data.toList.length:=by rw[HL.out];exact hlt
      have hkI:(k:Int)<(s.size:Int):=by omega
      have hdg:=HDD.out (s.data.toList[k]'hkl) (G4 _);have htd:=pA s.data.toList k hkl;rw[eX s k hlt hkl] at hdg htd;have hle:=mi s.data.toList (k+1);obtain⟨d,hd⟩:∃d,d=(s[k]'hlt).toNat-48:=⟨_,rfl⟩;have hd9:d<=9:=by omega
      have hdI:((s[k]'hlt).toNat:Int)-48=(d:Int):=by omega
      rw[<-hd,<-HN.out] at htd;obtain⟨q,hq⟩:∃q,q=(9223372036854775807-d) / 10:=⟨_,rfl⟩;have hqI:(9223372036854775807-(d:Int)).tdiv 10=(q:Int):=by
       rw[Int.tdiv_eq_ediv_of_nonneg (by omega)];omega
      have hwq:IntKind.i64.wrap (q:Int)=(q:Int):=by rw[GQ];omega
      by_cases hov:q<n
      ·have hovI:(q:Int)<(n:Int):=by omega
       have fin:=HX.out (by omega);have HF:=FQ fin;clear fin htd hle hd hq hdg;go_wp2;go_ret2;exact⟨⟨_,_,rfl,HF.out⟩,rfl⟩
      ·have hovI:¬(q:Int)<(n:Int):=by omega
       have hnn:10*n+d<9223372036854775808:=by omega
       have HT:=FQ htd;clear htd hle hd hq hdg;go_wp2;go_roundw
       case rel=>(try ((repeat apply Gc);refine⟨?_,rfl⟩));exact⟨k+1,10*n+d,by go_num,by go_num,by omega,by rw[HT.out];omega,hnn,by trivial⟩
       case measure=>simp[Gq];omega
     ·obtain rfl:k=s.size:=by omega
      have hn2:=HN.out;rw[Jm (by rw[HL.out];exact FG _)] at hn2;have fin:=HY.out (by omega);rw[<-hn2] at fin;have HF:=FQ fin;clear fin hn2;go_wp2;go_ret2;exact⟨⟨_,_,rfl,HF.out⟩,rfl⟩
   ·have h1I:¬(1:Int)<(s.size:Int):=by omega
    clear hlead hh;go_enter Tryz.func97,Tryz.ntmps97;go_wp2;go_loopw [4,5] (λv4 v5 wr=>∃k n:Nat,v5=.int .i64 (k:Nat)/\v4=.int .i64 (n:Nat)/\k<=s.size/\n=gS 0 (s.data.toList.take k)/\n<9223372036854775808/\wr=w) (λ_ v _=>s.size-(Gq v).toNat)
    case atStart=>exact⟨0,0,by go_num,by go_num,by omega,by rw[List.take_zero,iM],by omega,rfl⟩
    case round =>
     obtain⟨k,n,rfl,rfl,hk,hn,hnb,rfl⟩:=hrel;have HN:=FQ hn;clear hn;by_cases hlt:k<s.size
     ·have hkl:k<s.data.toList.length:=by rw[HL.out];exact hlt
      have hkI:(k:Int)<(s.size:Int):=by omega
      have hdg:=HDD.out (s.data.toList[k]'hkl) (G4 _);have htd:=pA s.data.toList k hkl;rw[eX s k hlt hkl] at hdg htd;have hle:=mi s.data.toList (k+1);obtain⟨d,hd⟩:∃d,d=(s[k]'hlt).toNat-48:=⟨_,rfl⟩;have hd9:d<=9:=by omega
      have hdI:((s[k]'hlt).toNat:Int)-48=(d:Int):=by omega
      rw[<-hd,<-HN.out] at htd;obtain⟨q,hq⟩:∃q,q=(9223372036854775807-d) / 10:=⟨_,rfl⟩;have hqI:(9223372036854775807-(d:Int)).tdiv 10=(q:Int):=by
       rw[Int.tdiv_eq_ediv_of_nonneg (by omega)];omega
      have hwq:IntKind.i64.wrap (q:Int)=(q:Int):=by rw[GQ];omega
      by_cases hov:q<n
      ·have hovI:(q:Int)<(n:Int):=by omega
       have fin:=HX.out (by omega);have HF:=FQ fin;clear fin htd hle hd hq hdg;go_wp2;go_ret2;exact⟨⟨_,_,rfl,HF.out⟩,rfl⟩
      ·have hovI:¬(q:Int)<(n:Int):=by omega
       have hnn:10*n+d<9223372036854775808:=by omega
       have HT:=FQ htd;clear htd hle hd hq hdg;go_wp2;go_roundw
       case rel=>(try ((repeat apply Gc);refine⟨?_,rfl⟩));exact⟨k+1,10*n+d,by go_num,by go_num,by omega,by rw[HT.out];omega,hnn,by trivial⟩
       case measure=>simp[Gq];omega
     ·obtain rfl:k=s.size:=by omega
      have hn2:=HN.out;rw[Jm (by rw[HL.out];exact FG _)] at hn2;have fin:=HY.out (by omega);rw[<-hn2] at fin;have HF:=FQ fin;clear fin hn2;go_wp2;go_ret2;exact⟨⟨_,_,rfl,HF.out⟩,rfl⟩
def iR (l:List UInt8):List UInt8 :=
 match l with
 | []=>[]
 | c::r=>if (c.toNat=33\/c.toNat=60)/\r.head?=FF 61 then [c,61] else if sgn c.toNat=true/\c.toNat≠33 then [c] else []
theorem we (c:UInt8)(r:List UInt8)(q:Nat)(h1:blk c.toNat=false)(h2:ltr c.toNat=false)(w:dig c.toNat=false) :
  (iR (c::r)=[]/\eZ 0 [] q q (c::r)=.inl (110,q))\/(iR (c::r)≠[]/\(iR (c::r)).length<=(c::r).length/\eZ 0 [] q q (c::r)=lJ ⟨4,0,iR (c::r),q⟩ (eZ 0 [] (q+(iR (c::r)).length) (q+(iR (c::r)).length) ((c::r).drop (iR (c::r)).length))):=by
 cases f:sgn c.toNat
 ·left
  have b:cls c.toNat=4:=by simp[cls,h1,h2,w,f]
  refine⟨?_,?_⟩
  ·unfold iR;simp only;rw[if_neg,if_neg (by rw[f];simp)];rintro ⟨h5|h5,_⟩<;>(rw[h5] at f;cases f)
  ·rw[fZ (k:=0) (by exact h1),b,wO];rfl
 ·have b:cls c.toNat=3:=by simp[cls,h1,h2,w,f]
  by_cases h5:(c.toNat=33\/c.toNat=60)/\r.head?=FF 61
  ·right
   have o:iR (c::r)=[c,61]:=by
    unfold iR;simp only;rw[if_pos h5]
   obtain⟨l,n⟩:=h5;cases r with
   | nil=>cases n
   | cons d v =>
    injection n with n
    subst n;rw[o];refine⟨by simp,by simp,?_⟩;have i:c=33\/c=60:=by
     rcases l with l|l
     ·exact .inl (Ig l)
     ·exact .inr (Ig l)
    have x:Pce 3 [c,61]:=by
     have u:Pce 3 [c]:=by rw[<-b];exact Pce.one c (by rw[b];omega)
     refine u.more 61 ?_;rcases i with rfl|rfl<;>rfl
    have s:=x.reads q v (λd m _=>by
     rw[uZ];rcases i with rfl|rfl<;>simp)
    show eZ 0 [] q q ([c,61]++v)=_;rw[s];unfold fU;rw[if_neg (by omega)];have p:jq 3 [c,61] q=.inr ⟨4,0,[c,61],q⟩:=by
     show oT [c,61] q=_;unfold oT;rw[if_neg (by simp)]
    rw[p];rfl
  ·have u:Pce 3 [c]:=by rw[<-b];exact Pce.one c (by rw[b];omega)
   have s:=u.reads q r (λd m e=>by
    subst e;rw[uZ];rw[<-Hm];intro t;simp only[Gi,Hx,beq_iff_eq,Ja,and_true] at t;apply h5;refine⟨?_,?_⟩
    ·rcases t.2 with h|h
     ·left;rw[h];rfl
     ·right;rw[h];rfl
    ·show FF d=FF 61
     congr 1
     exact Ig t.1)
   have g:eZ 0 [] q q (c::r)=fU 3 [c] q (eZ 0 [] (q+1) (q+1) r):=s;by_cases a:c.toNat=33
   ·left
    have j:c=33:=Ig a;refine⟨?_,?_⟩
    ·unfold iR;simp only;rw[if_neg h5,if_neg (by simp[a])]
    ·rw[g,j];rfl
   ·right
    have o:iR (c::r)=[c]:=by
     unfold iR;simp only;rw[if_neg h5,if_pos ⟨f,a⟩]
    rw[o];refine⟨by simp,by simp,?_⟩;rw[g];unfold fU;rw[if_neg (by omega)];have p:jq 3 [c] q=.inr ⟨4,0,[c],q⟩:=by
     show oT [c] q=_;unfold oT;rw[if_neg (by intro e;injection e with e _;rw[e] at a;exact a rfl)]
    rw[p];rfl
def sgA (i:Nat):Nat :=
 match i with
 | 0=>40 | 1=>41 | 2=>123 | 3=>125 | 4=>44 | 5=>58 | 6=>64 | 7=>43 | 8=>45 | 9=>42 | 10=>47 | 11=>37 | 12=>61|_=>60
theorem vK (r:Nat):(sgn r=true/\r≠33) ↔ ∃i,i<14/\sgA i=r:=by
 constructor
 ·rintro ⟨h,a⟩;simp[sgn,or_assoc] at h;rcases h with h|h|h|h|h|h|h|h|h|h|h|h|h|h|h
  ·exact⟨0,by omega,h.symm⟩
  ·exact⟨1,by omega,h.symm⟩
  ·exact⟨2,by omega,h.symm⟩
  ·exact⟨3,by omega,h.symm⟩
  ·exact⟨4,by omega,h.symm⟩
  ·exact⟨5,by omega,h.symm⟩
  ·exact⟨6,by omega,h.symm⟩
  ·exact⟨7,by omega,h.symm⟩
  ·exact⟨8,by omega,h.symm⟩
  ·exact⟨9,by omega,h.symm⟩
  ·exact⟨10,by omega,h.symm⟩
  ·exact⟨11,by omega,h.symm⟩
  ·exact⟨12,by omega,h.symm⟩
  ·exact absurd h a
  ·exact⟨13,by omega,h.symm⟩
 ·rintro ⟨i,b,rfl⟩
  match i,b with
  | 0,_=>exact⟨rfl,by decide⟩
  | 1,_=>exact⟨rfl,by decide⟩
  | 2,_=>exact⟨rfl,by decide⟩
  | 3,_=>exact⟨rfl,by decide⟩
  | 4,_=>exact⟨rfl,by decide⟩
  | 5,_=>exact⟨rfl,by decide⟩
  | 6,_=>exact⟨rfl,by decide⟩
  | 7,_=>exact⟨rfl,by decide⟩
  | 8,_=>exact⟨rfl,by decide⟩
  | 9,_=>exact⟨rfl,by decide⟩
  | 10,_=>exact⟨rfl,by decide⟩
  | 11,_=>exact⟨rfl,by decide⟩
  | 12,_=>exact⟨rfl,by decide⟩
  | 13,_=>exact⟨rfl,by decide⟩
theorem vY (s:ByteArray)(w:FI)(h0:0<s.size)(hs:s.size<=2000)(hx:s.size<=1\/(1<s.size/\¬(s.extract 0 2).toList=[33,61]/\¬(s.extract 0 2).toList=[60,61]))(R:ByteArray)(hR:(∃i,i<14/\sgA i=(s[0]'h0).toNat)/\R=s.extract 0 1\/(∀ i,i<14->sgA i≠(s[0]'h0).toNat)/\R=⟨#[]⟩) :
  FW FH 102 #[.string s] w λe w'=>e=.returned (.string R)/\FP w.heap.size w w':=by
 have HR:=FQ hR;have hb:(s[0]'h0).toNat<256:=Hb _;have h0I:(0:Int)<(s.size:Int):=by omega
 have h1s:(1:Int)<=(s.size:Int):=by omega
 clear hR;rcases hx with hx|⟨hx0,hx1,hx2⟩
 ·have h1I:¬(1:Int)<(s.size:Int):=by omega
  go_enter Tryz.func102,Tryz.ntmps102;go_upto_region 4 with fail;obtain⟨A,hA⟩:∃A:ByteArray,A=⟨#[40,41,123,125,44,58,64,43,45,42,47,37,61,60]⟩:=⟨_,rfl⟩;rw[<-hA];have hAs:A.size=14:=by rw[hA];rfl
  have HAA:Hid (∀ i (h:i<A.size),(A[i]).toNat=sgA i):=by
   intro i h;subst hA
   match i,h with
   | 0,_=>rfl
   | 1,_=>rfl
   | 2,_=>rfl
   | 3,_=>rfl
   | 4,_=>rfl
   | 5,_=>rfl
   | 6,_=>rfl
   | 7,_=>rfl
   | 8,_=>rfl
   | 9,_=>rfl
   | 10,_=>rfl
   | 11,_=>rfl
   | 12,_=>rfl
   | 13,_=>rfl
  clear hA;go_wp2_with fail;go_loopw [4] (λv wr=>∃k m:Nat,v=.int .i64 (k:Nat)/\k<=14/\(∀ j,j<k->sgA j≠(s[0]'h0).toNat)/\wr=w.drewN m) (λv _=>14-(Gq v).toNat)
  case atStart=>exact⟨0,0,by go_num,by omega,λj h=>by omega,rfl⟩
  case round =>
   obtain⟨k,m,rfl,hk,hin,rfl⟩:=hrel;by_cases hlt:k<14
   ·have hkI:(k:Int)<14:=by omega
    have hkA:k<A.size:=by omega
    have hak:=HAA.out k hkA;by_cases he:sgA k=(s[0]'h0).toNat
    ·have hRR:R=s.extract 0 1:=by
      rcases HR.out with ⟨_,h⟩|⟨h,_⟩
      ·exact h
      ·exact absurd he (h k hlt)
     have HRR:=FQ hRR;rw[he] at hak;clear hRR hin he;go_wp2
     go_quiet (fail)
     go_wp2;go_ret;exact⟨by rw[HRR.out];rfl,bdr (b0 _) _⟩
    ·have hakI:((A[k]'hkA).toNat:Int)≠((s[0]'h0).toNat:Int):=by omega
     have hakB:(((A[k]'hkA).toNat:Int)==((s[0]'h0).toNat:Int))=false:=by simpa using hakI
     have hakB2:((A[k]'hkA).toNat==(s[0]'h0).toNat)=false:=by simp;omega
     have RL:∀ j,j<k+1->sgA j≠(s[0]'h0).toNat:=λj h=>by
      by_cases e:j=k
      ·subst e;exact he
      ·exact hin j (by omega)
     clear hin he hak;go_wp2
     go_quiet (fail)
     rename_i nq
     go_wp2;go_roundw
     case rel=>(try ((repeat apply Gc);refine⟨?_,rfl⟩));exact⟨k+1,m+nq,by go_num,by omega,RL,by first|trivial|rw[World.drewN_drewN] | simp⟩
     case measure=>simp[Gq];omega
   ·obtain rfl:k=14:=by omega
    have hRR:R=⟨#[]⟩:=by
     rcases HR.out with ⟨⟨i,h1,h2⟩,_⟩|⟨_,h⟩
     ·exact absurd h2 (hin i h1)
     ·exact h
    have HRR:=FQ hRR;clear hRR hin;go_wp2;go_ret;exact⟨by rw[HRR.out];rfl,bdr (b0 _) _⟩
 ·have h1I:(1:Int)<(s.size:Int):=by omega
  have h2I:(2:Int)<=(s.size:Int):=by omega
  have x1:((s.extract 0 2).toList==[33,61])=false:=beq_eq_false_iff_ne.2 hx1;have x2:((s.extract 0 2).toList==[60,61])=false:=beq_eq_false_iff_ne.2 hx2;go_enter Tryz.func102,Tryz.ntmps102;go_upto_region 4 with fail;obtain⟨A,hA⟩:∃A:ByteArray,A=⟨#[40,41,123,125,44,58,64,43,45,42,47,37,61,60]⟩:=⟨_,rfl⟩;rw[<-hA];have hAs:A.size=14:=by rw[hA];rfl
  have HAA:Hid (∀ i (h:i<A.size),(A[i]).toNat=sgA i):=by
   intro i h;subst hA
   match i,h with
   | 0,_=>rfl
   | 1,_=>rfl
   | 2,_=>rfl
   | 3,_=>rfl
   | 4,_=>rfl
   | 5,_=>rfl
   | 6,_=>rfl
   | 7,_=>rfl
   | 8,_=>rfl
   | 9,_=>rfl
   | 10,_=>rfl
   | 11,_=>rfl
   | 12,_=>rfl
   | 13,_=>rfl
  clear hA;go_wp2_with fail;go_loopw [4] (λv wr=>∃k m:Nat,v=.int .i64 (k:Nat)/\k<=14/\(∀ j,j<k->sgA j≠(s[0]'h0).toNat)/\wr=w.drewN m) (λv _=>14-(Gq v).toNat)
  case atStart=>exact⟨0,0,by go_num,by omega,λj h=>by omega,rfl⟩
  case round =>
   obtain⟨k,m,rfl,hk,hin,rfl⟩:=hrel;by_cases hlt:k<14
   ·have hkI:(k:Int)<14:=by omega
    have hkA:k<A.size:=by omega
    have hak:=HAA.out k hkA;by_cases he:sgA k=(s[0]'h0).toNat
    ·have hRR:R=s.extract 0 1:=by
      rcases HR.out with ⟨_,h⟩|⟨h,_⟩
      ·exact h
      ·exact absurd he (h k hlt)
     have HRR:=FQ hRR;rw[he] at hak;clear hRR hin he;go_wp2
     go_quiet (fail)
     go_wp2;go_ret;exact⟨by rw[HRR.out];rfl,bdr (b0 _) _⟩
    ·have hakI:((A[k]'hkA).toNat:Int)≠((s[0]'h0).toNat:Int):=by omega
     have hakB:(((A[k]'hkA).toNat:Int)==((s[0]'h0).toNat:Int))=false:=by simpa using hakI
     have hakB2:((A[k]'hkA).toNat==(s[0]'h0).toNat)=false:=by simp;omega
     have RL:∀ j,j<k+1->sgA j≠(s[0]'h0).toNat:=λj h=>by
      by_cases e:j=k
      ·subst e;exact he
      ·exact hin j (by omega)
     clear hin he hak;go_wp2
     go_quiet (fail)
     rename_i nq
     go_wp2;go_roundw
     case rel=>(try ((repeat apply Gc);refine⟨?_,rfl⟩));exact⟨k+1,m+nq,by go_num,by omega,RL,by first|trivial|rw[World.drewN_drewN] | simp⟩
     case measure=>simp[Gq];omega
   ·obtain rfl:k=14:=by omega
    have hRR:R=⟨#[]⟩:=by
     rcases HR.out with ⟨⟨i,h1,h2⟩,_⟩|⟨_,h⟩
     ·exact absurd h2 (hin i h1)
     ·exact h
    have HRR:=FQ hRR;clear hRR hin;go_wp2;go_ret;exact⟨by rw[HRR.out];rfl,bdr (b0 _) _⟩
theorem rH (s:ByteArray)(h:1<s.size):(s.extract 0 2).data.toList=[s[0],s[1]]:=by
 rw[zw];have a:=fa s;have e:s.data.toList.take 2=[s.data.toList[0]'(by omega),s.data.toList[1]'(by omega)]:=by
  rw[List.take_add_one,List.take_add_one,List.take_zero,FN (by omega),FN (by omega)];rfl
 rw[e,eX s 0 (by omega),eX s 1 h]
theorem xG (s:ByteArray)(h:0<s.size):s.data.toList=s[0]::s.data.toList.drop 1:=by
 have a:=fa s
 have:=lQ s.data.toList 0 (by omega)
 rw[List.drop_zero,eX s 0 h] at this;exact this
theorem D1 (s:ByteArray)(w:FI)(h0:0<s.size)(hs:s.size<=2000) :
  FW FH 102 #[.string s] w λe w'=>e=.returned (.string ⟨(iR s.data.toList).toArray⟩)/\FP w.heap.size w w':=by
 have hl:=fa s;have hcl:=xG s h0;by_cases h2:1<s.size/\((s[0]'h0).toNat=33\/(s[0]'h0).toNat=60)/\(s.data.toList.drop 1).head?=FF 61
 ·obtain⟨h1,h3,h4⟩:=h2;have hu:iR s.data.toList=[s[0],61]:=by
   rw[hcl];unfold iR;simp only;rw[if_pos ⟨h3,h4⟩]
  have h5:s[1]'h1=61:=by
   rw[List.head?_drop,FN (by omega),eX s 1 h1] at h4;injection h4
  have htl:=rH s h1;rw[h5] at htl;have hR:s.extract 0 2=⟨(iR s.data.toList).toArray⟩:=by
   rw[hu,<-htl,pO]
  have HR:=FQ hR;have h1I:(1:Int)<(s.size:Int):=by omega
  have h2I:(2:Int)<=(s.size:Int):=by omega
  rcases h3 with h3|h3
  ·have hc:s[0]'h0=33:=Ig h3;rw[hc] at htl;have hA:(s.extract 0 2).toList=[33,61]:=by rw[Hv];exact htl
   clear hcl hu hR htl hl hc h3 h4 h5;go_enter Tryz.func102,Tryz.ntmps102;go_wp2;go_ret;exact⟨by rw[<-HR.out];rfl,b0 _⟩
  ·have hc:s[0]'h0=60:=Ig h3;rw[hc] at htl;have hA:(s.extract 0 2).toList=[60,61]:=by rw[Hv];exact htl
   clear hcl hu hR htl hl hc h3 h4 h5;go_enter Tryz.func102,Tryz.ntmps102;go_wp2;go_ret;exact⟨by rw[<-HR.out];rfl,b0 _⟩
 ·refine vY s w h0 hs ?_ _ ?_
  ·by_cases h1:1<s.size
   ·right
    have htl:=rH s h1;have hh:(s.data.toList.drop 1).head?=FF s[1]:=by rw[List.head?_drop,FN (by omega),eX s 1 h1]
    refine⟨h1,?_,?_⟩
    ·intro e;rw[Hv,htl] at e;injection e with e1 e2
     injection e2 with e2 _
     exact h2 ⟨h1,.inl (by rw[e1];rfl),by rw[hh,e2]⟩
    ·intro e;rw[Hv,htl] at e;injection e with e1 e2
     injection e2 with e2 _
     exact h2 ⟨h1,.inr (by rw[e1];rfl),by rw[hh,e2]⟩
   ·left
    omega
  ·have hu:iR s.data.toList=if sgn (s[0]'h0).toNat=true/\(s[0]'h0).toNat≠33 then [s[0]] else []:=by
    rw[hcl];unfold iR;simp only;rw[if_neg];rintro ⟨h3,h4⟩;refine h2 ⟨?_,h3,h4⟩;rw[List.head?_drop] at h4;by_cases h1:1<s.size
    ·exact h1
    ·rw[Gm (by omega)] at h4;cases h4
   by_cases h3:sgn (s[0]'h0).toNat=true/\(s[0]'h0).toNat≠33
   ·left
    rw[hu,if_pos h3];refine⟨(vK _).1 h3,?_⟩;rw[tg,hcl];rfl
   ·right
    rw[hu,if_neg h3];refine⟨λi hi e=>h3 ((vK _).2 ⟨i,hi,e⟩),rfl⟩
def fN (l:List UInt8)(a:Nat)(e:Hk):Prop :=
 (∃er:Nat,e=.returned (.tuple #[.agg #[.int .i64 0,.int .i64 0,.string ⟨#[]⟩,.int .i64 0],.int .i64 0,.int .i64 er])/\eZ 0 [] a a (l.drop a)=.inl (er,a)/\er≠0) \/
 (∃(x:Tk) (b:Nat),e=.returned (.tuple #[.agg (tka x),.int .i64 b,.int .i64 0])/\a<b/\b<=l.length/\eZ 0 [] a a (l.drop a)=lJ x (eZ 0 [] b b (l.drop b)))
theorem gh {c:Func}{p u v:Tmp}(h:c.results=#[.cell p 67,.tmp u,.tmp v])(tmps:Array FO)(w:FI)(g:Nat)(v0 v1 v2 v3:FO)(t:Gu)(b:Nat × Nat)
  (d:tmps.getD p undef=.pointer (FF ⟨g,0,FE⟩)) (f:w.heap[g]?=FF (.cells #[v0,v1,v2,v3] t b)) :
  (results c tmps).run FH w=.ok (.tuple #[.agg #[v0,v1,v2,v3],tmps.getD u undef,tmps.getD v undef]) w:=by
 have e:=run_loadVar_row (P:=FH) w g t 67 #[v0,v1,v2,v3] b _ f Tryz.underlying67 rfl (by kernel_rfl);have a:tmps[p]?.getD undef=.pointer (FF ⟨g,0,FE⟩):=by simpa using d
 simp[results,h,a,asAddr,e,Result.andThen]
theorem qY {w w1:FI}{A:Obj}(h:FP (w.alloc A).heap.size (w.alloc A) w1):w1.heap[w.heap.size]?=FF A/\FP w.heap.size w w1:=by
 refine⟨?_,(b1 _ _).trans (h.mono (by simp))⟩;rw[h.block _ (by simp)];exact FM _ _
theorem na (s:ByteArray)(a e:Nat)(b:a<e)(h1:e<=s.size):(s.extract a e).data.toList=(s.data.toList.drop a).take (e-a)/\(s.extract a e).size=e-a:=by
 refine⟨lI s a e,?_⟩;rw[<-fa,lI];exact uC _ _ _ b (by rw[fa];exact h1)
theorem zt (l:List UInt8)(a e:Nat)(h1:e<=l.length)(d:∀ j (h:j<l.length),a<=j->j<e->tks 2 [] (l[j]).toNat=true):te ((l.drop a).take (e-a)):=by
 intro c i;obtain⟨j,g,rfl⟩:=List.mem_iff_getElem.1 i;have f:j<e-a:=by simp at g;omega
 rw[List.getElem_take,List.getElem_drop];have b:a+j<l.length:=by omega
 have:=d (a+j) b (by omega) (by omega)
 simpa [tks,dig] using this
theorem AW {r:Nat}(h1:blk r=false)(a:dig r=true):cls r=2:=by
 have h2:ltr r=false:=by
  simp[dig] at a;simp[ltr,sml];omega
 simp[cls,h1,h2,a]
theorem vI {r:Nat}(h1:blk r=false)(h2:ltr r=true):cls r=1:=by simp[cls,h1,h2]
theorem vQ (s:ByteArray)(at0:Nat)(w:FI)(hat:at0<s.size)(hs:s.size<=2000)(hb:blk (s[at0]).toNat=false)(hd:dig (s[at0]).toNat=true) :
  FW FH 50 #[.string s,.int .i64 (at0:Nat)] w λe w'=>fN s.data.toList at0 e/\FP w.heap.size w w':=by
 have HL:Hid (s.data.toList.length=s.size):=fa s;have hb0:(s[at0]'hat).toNat<256:=Hb _;have hatI:(at0:Int)<(s.size:Int):=by omega
 have hal:at0<s.data.toList.length:=by rw[HL.out];exact hat
 have HC:Hid (cls (s.data.toList[at0]'hal).toNat=2):=by rw[eX s at0 hat hal];exact AW hb hd
 go_enter Tryz.func50,Tryz.ntmps50;go_wp2_with (first|(go_at_call 95;refine(iX _ _ hb0).mono ?_;rw[hd];rintro e w1 ⟨rfl,rfl⟩)|(go_at_call 96;refine(D2 s at0 _ hat hs hd).mono ?_;rintro e w1 ⟨e0,rfl,hE,rfl⟩;refine Hid.out ?_));refine FQ ?_;obtain⟨h1,h2,h3,h4⟩:=hE;rw[HL.out] at h2;obtain⟨hx1,hx2⟩:=na s at0 e0 h1 h2;have hsr:=oB s.data.toList 2 at0 e0 (.inr rfl) h1 (by rw[HL.out];exact h2) HC.out h3 h4;have hdg:=zt s.data.toList at0 e0 (by rw[HL.out];exact h2) h3;have HSR:=FQ hsr;have hI1:(at0:Int)<=(e0:Int):=by omega
 have hI2:(e0:Int)<=(s.size:Int):=by omega
 rw[<-hx1] at hdg;have HX:=FQ hx1;have hz1:0<(s.extract at0 e0).size:=by omega
 have hz2:(s.extract at0 e0).size<=2000:=by omega
 clear hsr h3 h4 hx1 hx2;go_wp2_with (go_at_call 97;refine(yB _ _ hz1 hz2 hdg).mono ?_;rintro e w2 ⟨⟨v,b,rfl,ho⟩,rfl⟩;refine Hid.out ?_);refine FQ ?_;rw[HX.out] at ho;clear hdg hz1 hz2;rcases ho with ⟨rfl,hn⟩|⟨rfl,rfl,hn⟩
 ·have HP:Hid (fN s.data.toList at0 (.returned (.tuple #[.agg #[.int .i64 1,.int .i64 v,.string ⟨#[]⟩,.int .i64 (at0:Nat)],.int .i64 (e0:Nat),.int .i64 0]))):=by
   refine .inr ⟨⟨1,v,[],at0⟩,e0,rfl,h1,by rw[HL.out];exact h2,?_⟩;rw[HSR.out];unfold fU;rw[if_neg (by omega)];show (match ki _ at0 with | .inl e=>_ | .inr x=>_)=_;rw[hn at0]
  clear hn;go_wp2;refine FL (gh rfl _ _ w.heap.size _ _ _ _ _ _ rfl (FM _ _)) rfl ?_;exact⟨HP.out,b1 _ _⟩
 ·have HP:Hid (fN s.data.toList at0 (.returned (.tuple #[.agg #[.int .i64 0,.int .i64 0,.string ⟨#[]⟩,.int .i64 0],.int .i64 0,.int .i64 111]))):=by
   refine .inl ⟨111,rfl,?_,by omega⟩;rw[HSR.out];unfold fU;rw[if_neg (by omega)];show (match ki _ at0 with | .inl e=>_ | .inr x=>_)=_;rw[hn at0]
  clear hn;go_wp2;refine FL (gh rfl _ _ w.heap.size _ _ _ _ _ _ rfl (FM _ _)) rfl ?_;exact⟨HP.out,b1 _ _⟩
theorem rl (s:ByteArray)(at0:Nat)(w:FI)(hat:at0<s.size)(hs:s.size<=2000)(hb:blk (s[at0]).toNat=false)(hd:dig (s[at0]).toNat=false)(hsm:sml (s[at0]).toNat=true) :
  FW FH 50 #[.string s,.int .i64 (at0:Nat)] w λe w'=>fN s.data.toList at0 e/\FP w.heap.size w w':=by
 have HL:Hid (s.data.toList.length=s.size):=fa s;have hb0:(s[at0]'hat).toNat<256:=Hb _;have hatI:(at0:Int)<(s.size:Int):=by omega
 have hal:at0<s.data.toList.length:=by rw[HL.out];exact hat
 have hl:ltr (s[at0]'hat).toNat=true:=by simp[ltr,hsm]
 have HC:Hid (cls (s.data.toList[at0]'hal).toNat=1):=by rw[eX s at0 hat hal];exact vI hb hl
 go_enter Tryz.func50,Tryz.ntmps50;go_wp2_with (first|(go_at_call 95;refine(iX _ _ hb0).mono ?_;rw[hd];rintro e w1 ⟨rfl,rfl⟩)|(go_at_call 98;refine(i7 _ _ hb0).mono ?_;rw[hsm];rintro e w1 ⟨rfl,rfl⟩)|(go_at_call 96;refine(yg s at0 _ hat hs hd hl).mono ?_;rintro e w1 ⟨e0,rfl,hE,rfl⟩;refine Hid.out ?_));refine FQ ?_;obtain⟨h1,h2,h3,h4⟩:=hE;rw[HL.out] at h2;obtain⟨hx1,hx2⟩:=na s at0 e0 h1 h2;have hsr:=oB s.data.toList 1 at0 e0 (.inl rfl) h1 (by rw[HL.out];exact h2) HC.out h3 h4;have HSR:=FQ hsr;have hI1:(at0:Int)<=(e0:Int):=by omega
 have hI2:(e0:Int)<=(s.size:Int):=by omega
 have HX:=FQ hx1;have hz2:(s.extract at0 e0).size<=F9:=by unfold F9;omega
 clear hsr h3 h4 hx1 hx2;go_wp2_with (go_at_call 100;refine(sZ _ _ hz2).mono ?_;rw[HX.out];rintro e w2 ⟨rfl,hb2⟩;refine Hid.out ?_);refine FQ ?_;obtain⟨k2,B2⟩:=qY hb2;clear hb2;have HY:Hid (∀ x,jm ((s.data.toList.drop at0).take (e0-at0)) at0=.inr x->eZ 0 [] at0 at0 (s.data.toList.drop at0)=lJ x (eZ 0 [] e0 e0 (s.data.toList.drop e0))):=λx h=>by
  rw[HSR.out];unfold fU;rw[if_neg (by omega)];show (match jm _ at0 with | .inl e=>_ | .inr x=>_)=_;rw[h]
 have HN:Hid (∀ e,jm ((s.data.toList.drop at0).take (e0-at0)) at0=.inl e->eZ 0 [] at0 at0 (s.data.toList.drop at0)=.inl (e,at0)):=λx h=>by
  rw[HSR.out];unfold fU;rw[if_neg (by omega)];show (match jm _ at0 with | .inl e=>_ | .inr x=>_)=_;rw[h]
 have hbt:(⟨((s.data.toList.drop at0).take (e0-at0)).toArray⟩:ByteArray)=s.extract at0 e0:=(tg s at0 e0).symm;cases hw:gM ((s.data.toList.drop at0).take (e0-at0))
 ·have hn0:B2=B2:=rfl;have hk2:=FQ k2;go_wp2_with (go_at_call 101;refine(qg _ _ hz2).mono ?_;rw[HX.out];rintro e w3 ⟨rfl,hb3⟩;refine Hid.out ?_);refine FQ ?_;have k3:w3.heap[w.heap.size]?=FF (.cells #[.int .i64 0,.int .i64 0,.string ⟨#[]⟩,.int .i64 0] 67 (0,0)):=by
   rw[hb3.block _ (FJ hk2.out)];exact hk2.out
  have B3:=B2.trans (hb3.mono B2.size);clear hb3 k2 hk2 B2 hn0;have c0:w3.cell? ⟨w.heap.size,0,FE⟩=FF (.int .i64 0):=by rw[Gn _ _ _ _ _ _ k3];rfl
  have c1:w3.cell? ⟨w.heap.size,1,FE⟩=FF (.int .i64 0):=by rw[Gn _ _ _ _ _ _ k3];rfl
  have c2:w3.cell? ⟨w.heap.size,2,FE⟩=FF (.string ⟨#[]⟩):=by rw[Gn _ _ _ _ _ _ k3];rfl
  have c3:w3.cell? ⟨w.heap.size,3,FE⟩=FF (.int .i64 0):=by rw[Gn _ _ _ _ _ _ k3];rfl
  have fz:∀ j,w3.frozen? ⟨w.heap.size,j,FE⟩=false:=λj=>GS w3 _ j _ _ k3;have HK2:=FQ k3;clear k3;cases hn:eD ((s.data.toList.drop at0).take (e0-at0))
  ·have HP:Hid (fN s.data.toList at0 (.returned (.tuple #[.agg #[.int .i64 0,.int .i64 0,.string ⟨#[]⟩,.int .i64 0],.int .i64 0,.int .i64 112]))):=by
    refine .inl ⟨112,rfl,HN.out 112 ?_,by omega⟩;unfold jm;rw[hw,hn];rfl
   clear hw hn hbt;go_wp2;refine FL (gh rfl _ _ w.heap.size _ _ _ _ _ _ rfl (sC _ _ _ _ HK2.out)) rfl ?_;exact⟨HP.out,mR _ _ _ _ B3 (by omega)⟩
  ·have HP:Hid (fN s.data.toList at0 (.returned (.tuple #[.agg #[.int .i64 2,.int .i64 0,.string (s.extract at0 e0),.int .i64 (at0:Nat)],.int .i64 (e0:Nat),.int .i64 0]))):=by
    refine .inr ⟨⟨2,0,(s.data.toList.drop at0).take (e0-at0),at0⟩,e0,by simp only[tka,hbt];rfl,h1,by rw[HL.out];exact h2,HY.out _ ?_⟩;unfold jm;rw[hw,hn];rfl
   clear hw hn hbt;go_wp2;refine FL (gh rfl _ _ w.heap.size _ _ _ _ _ _ rfl (sC _ _ _ _ HK2.out)) rfl ?_;exact⟨HP.out,mR _ _ _ _ B3 (by omega)⟩
 ·have HP:Hid (fN s.data.toList at0 (.returned (.tuple #[.agg #[.int .i64 3,.int .i64 0,.string (s.extract at0 e0),.int .i64 (at0:Nat)],.int .i64 (e0:Nat),.int .i64 0]))):=by
   refine .inr ⟨⟨3,0,(s.data.toList.drop at0).take (e0-at0),at0⟩,e0,by simp only[tka,hbt];rfl,h1,by rw[HL.out];exact h2,HY.out _ ?_⟩;unfold jm;rw[hw];rfl
  have c0:w2.cell? ⟨w.heap.size,0,FE⟩=FF (.int .i64 0):=by rw[Gn _ _ _ _ _ _ k2];rfl
  have c1:w2.cell? ⟨w.heap.size,1,FE⟩=FF (.int .i64 0):=by rw[Gn _ _ _ _ _ _ k2];rfl
  have c2:w2.cell? ⟨w.heap.size,2,FE⟩=FF (.string ⟨#[]⟩):=by rw[Gn _ _ _ _ _ _ k2];rfl
  have c3:w2.cell? ⟨w.heap.size,3,FE⟩=FF (.int .i64 0):=by rw[Gn _ _ _ _ _ _ k2];rfl
  have fz:∀ j,w2.frozen? ⟨w.heap.size,j,FE⟩=false:=λj=>GS w2 _ j _ _ k2;have HK2:=FQ k2;clear k2;clear hw hbt;go_wp2;refine FL (gh rfl _ _ w.heap.size _ _ _ _ _ _ rfl (sC _ _ _ _ HK2.out)) rfl ?_;exact⟨HP.out,mR _ _ _ _ B2 (by omega)⟩
theorem sF (s:ByteArray)(at0:Nat)(w:FI)(hat:at0<s.size)(hs:s.size<=2000)(hb:blk (s[at0]).toNat=false)(hd:dig (s[at0]).toNat=false)(hsm:sml (s[at0]).toNat=false)(hgr:grt (s[at0]).toNat=true) :
  FW FH 50 #[.string s,.int .i64 (at0:Nat)] w λe w'=>fN s.data.toList at0 e/\FP w.heap.size w w':=by
 have HL:Hid (s.data.toList.length=s.size):=fa s;have hb0:(s[at0]'hat).toNat<256:=Hb _;have hatI:(at0:Int)<(s.size:Int):=by omega
 have hal:at0<s.data.toList.length:=by rw[HL.out];exact hat
 have hl:ltr (s[at0]'hat).toNat=true:=by rw[lH,hsm,hgr];rfl
 have HC:Hid (cls (s.data.toList[at0]'hal).toNat=1):=by rw[eX s at0 hat hal];exact vI hb hl
 go_enter Tryz.func50,Tryz.ntmps50;go_wp2_with (first|(go_at_call 95;refine(iX _ _ hb0).mono ?_;rw[hd];rintro e w1 ⟨rfl,rfl⟩)|(go_at_call 98;refine(i7 _ _ hb0).mono ?_;rw[hsm];rintro e w1 ⟨rfl,rfl⟩)|(go_at_call 99;refine(p7 _ _ hb0).mono ?_;rw[hgr];rintro e w1 ⟨rfl,rfl⟩)|(go_at_call 96;refine(yg s at0 _ hat hs hd hl).mono ?_;rintro e w1 ⟨e0,rfl,hE,rfl⟩;refine Hid.out ?_));refine FQ ?_;obtain⟨h1,h2,h3,h4⟩:=hE;rw[HL.out] at h2;obtain⟨hx1,hx2⟩:=na s at0 e0 h1 h2;have hsr:=oB s.data.toList 1 at0 e0 (.inl rfl) h1 (by rw[HL.out];exact h2) HC.out h3 h4;have HSR:=FQ hsr;have hI1:(at0:Int)<=(e0:Int):=by omega
 have hI2:(e0:Int)<=(s.size:Int):=by omega
 have HX:=FQ hx1;have hz2:(s.extract at0 e0).size<=F9:=by unfold F9;omega
 clear hsr h3 h4 hx1 hx2;go_wp2_with (go_at_call 100;refine(sZ _ _ hz2).mono ?_;rw[HX.out];rintro e w2 ⟨rfl,hb2⟩;refine Hid.out ?_);refine FQ ?_;obtain⟨k2,B2⟩:=qY hb2;clear hb2;have HY:Hid (∀ x,jm ((s.data.toList.drop at0).take (e0-at0)) at0=.inr x->eZ 0 [] at0 at0 (s.data.toList.drop at0)=lJ x (eZ 0 [] e0 e0 (s.data.toList.drop e0))):=λx h=>by
  rw[HSR.out];unfold fU;rw[if_neg (by omega)];show (match jm _ at0 with | .inl e=>_ | .inr x=>_)=_;rw[h]
 have HN:Hid (∀ e,jm ((s.data.toList.drop at0).take (e0-at0)) at0=.inl e->eZ 0 [] at0 at0 (s.data.toList.drop at0)=.inl (e,at0)):=λx h=>by
  rw[HSR.out];unfold fU;rw[if_neg (by omega)];show (match jm _ at0 with | .inl e=>_ | .inr x=>_)=_;rw[h]
 have hbt:(⟨((s.data.toList.drop at0).take (e0-at0)).toArray⟩:ByteArray)=s.extract at0 e0:=(tg s at0 e0).symm;cases hw:gM ((s.data.toList.drop at0).take (e0-at0))
 ·have hn0:B2=B2:=rfl;have hk2:=FQ k2;go_wp2_with (go_at_call 101;refine(qg _ _ hz2).mono ?_;rw[HX.out];rintro e w3 ⟨rfl,hb3⟩;refine Hid.out ?_);refine FQ ?_;have k3:w3.heap[w.heap.size]?=FF (.cells #[.int .i64 0,.int .i64 0,.string ⟨#[]⟩,.int .i64 0] 67 (0,0)):=by
   rw[hb3.block _ (FJ hk2.out)];exact hk2.out
  have B3:=B2.trans (hb3.mono B2.size);clear hb3 k2 hk2 B2 hn0;have c0:w3.cell? ⟨w.heap.size,0,FE⟩=FF (.int .i64 0):=by rw[Gn _ _ _ _ _ _ k3];rfl
  have c1:w3.cell? ⟨w.heap.size,1,FE⟩=FF (.int .i64 0):=by rw[Gn _ _ _ _ _ _ k3];rfl
  have c2:w3.cell? ⟨w.heap.size,2,FE⟩=FF (.string ⟨#[]⟩):=by rw[Gn _ _ _ _ _ _ k3];rfl
  have c3:w3.cell? ⟨w.heap.size,3,FE⟩=FF (.int .i64 0):=by rw[Gn _ _ _ _ _ _ k3];rfl
  have fz:∀ j,w3.frozen? ⟨w.heap.size,j,FE⟩=false:=λj=>GS w3 _ j _ _ k3;have HK2:=FQ k3;clear k3;cases hn:eD ((s.data.toList.drop at0).take (e0-at0))
  ·have HP:Hid (fN s.data.toList at0 (.returned (.tuple #[.agg #[.int .i64 0,.int .i64 0,.string ⟨#[]⟩,.int .i64 0],.int .i64 0,.int .i64 112]))):=by
    refine .inl ⟨112,rfl,HN.out 112 ?_,by omega⟩;unfold jm;rw[hw,hn];rfl
   clear hw hn hbt;go_wp2;refine FL (gh rfl _ _ w.heap.size _ _ _ _ _ _ rfl (sC _ _ _ _ HK2.out)) rfl ?_;exact⟨HP.out,mR _ _ _ _ B3 (by omega)⟩
  ·have HP:Hid (fN s.data.toList at0 (.returned (.tuple #[.agg #[.int .i64 2,.int .i64 0,.string (s.extract at0 e0),.int .i64 (at0:Nat)],.int .i64 (e0:Nat),.int .i64 0]))):=by
    refine .inr ⟨⟨2,0,(s.data.toList.drop at0).take (e0-at0),at0⟩,e0,by simp only[tka,hbt];rfl,h1,by rw[HL.out];exact h2,HY.out _ ?_⟩;unfold jm;rw[hw,hn];rfl
   clear hw hn hbt;go_wp2;refine FL (gh rfl _ _ w.heap.size _ _ _ _ _ _ rfl (sC _ _ _ _ HK2.out)) rfl ?_;exact⟨HP.out,mR _ _ _ _ B3 (by omega)⟩
 ·have HP:Hid (fN s.data.toList at0 (.returned (.tuple #[.agg #[.int .i64 3,.int .i64 0,.string (s.extract at0 e0),.int .i64 (at0:Nat)],.int .i64 (e0:Nat),.int .i64 0]))):=by
   refine .inr ⟨⟨3,0,(s.data.toList.drop at0).take (e0-at0),at0⟩,e0,by simp only[tka,hbt];rfl,h1,by rw[HL.out];exact h2,HY.out _ ?_⟩;unfold jm;rw[hw];rfl
  have c0:w2.cell? ⟨w.heap.size,0,FE⟩=FF (.int .i64 0):=by rw[Gn _ _ _ _ _ _ k2];rfl
  have c1:w2.cell? ⟨w.heap.size,1,FE⟩=FF (.int .i64 0):=by rw[Gn _ _ _ _ _ _ k2];rfl
  have c2:w2.cell? ⟨w.heap.size,2,FE⟩=FF (.string ⟨#[]⟩):=by rw[Gn _ _ _ _ _ _ k2];rfl
  have c3:w2.cell? ⟨w.heap.size,3,FE⟩=FF (.int .i64 0):=by rw[Gn _ _ _ _ _ _ k2];rfl
  have fz:∀ j,w2.frozen? ⟨w.heap.size,j,FE⟩=false:=λj=>GS w2 _ j _ _ k2;have HK2:=FQ k2;clear k2;clear hw hbt;go_wp2;refine FL (gh rfl _ _ w.heap.size _ _ _ _ _ _ rfl (sC _ _ _ _ HK2.out)) rfl ?_;exact⟨HP.out,mR _ _ _ _ B2 (by omega)⟩
theorem sY (s:ByteArray)(at0:Nat)(w:FI)(hat:at0<s.size)(hs:s.size<=2000)(hb:blk (s[at0]).toNat=false)(hd:dig (s[at0]).toNat=false)(hsm:sml (s[at0]).toNat=false)(hgr:grt (s[at0]).toNat=false) :
  FW FH 50 #[.string s,.int .i64 (at0:Nat)] w λe w'=>fN s.data.toList at0 e/\FP w.heap.size w w':=by
 have HL:Hid (s.data.toList.length=s.size):=fa s;have hb0:(s[at0]'hat).toNat<256:=Hb _;have hatI:(at0:Int)<(s.size:Int):=by omega
 have hatL:(at0:Int)<=(s.size:Int):=by omega
 have hal:at0<s.data.toList.length:=by rw[HL.out];exact hat
 have hl:ltr (s[at0]'hat).toNat=false:=by rw[lH,hsm,hgr];rfl
 have hda:=lQ s.data.toList at0 hal;rw[eX s at0 hat hal] at hda;have hsr:=we (s[at0]'hat) (s.data.toList.drop (at0+1)) at0 hb hl hd;rw[<-hda] at hsr;obtain⟨hx1,hx2⟩:=na s at0 s.size hat (FG _);rw[Jm (by rw[List.length_drop,HL.out];exact FG _)] at hx1;have HSR:=FQ hsr;have HX:=FQ hx1;have hz1:0<(s.extract at0 s.size).size:=by omega
 have hz2:(s.extract at0 s.size).size<=2000:=by omega
 clear hda hsr hx1 hx2 hl;go_enter Tryz.func50,Tryz.ntmps50;go_wp2_with (first|(go_at_call 95;refine(iX _ _ hb0).mono ?_;rw[hd];rintro e w1 ⟨rfl,rfl⟩)|(go_at_call 98;refine(i7 _ _ hb0).mono ?_;rw[hsm];rintro e w1 ⟨rfl,rfl⟩)|(go_at_call 99;refine(p7 _ _ hb0).mono ?_;rw[hgr];rintro e w1 ⟨rfl,rfl⟩)|(go_at_call 102;refine(D1 _ _ hz1 hz2).mono ?_;rw[HX.out];rintro e w2 ⟨rfl,hb2⟩;refine Hid.out ?_));refine FQ ?_;obtain⟨k2,B2⟩:=qY hb2;clear hb2 hz1 hz2;have c0:w2.cell? ⟨w.heap.size,0,FE⟩=FF (.int .i64 0):=by rw[Gn _ _ _ _ _ _ k2];rfl
 have c1:w2.cell? ⟨w.heap.size,1,FE⟩=FF (.int .i64 0):=by rw[Gn _ _ _ _ _ _ k2];rfl
 have c2:w2.cell? ⟨w.heap.size,2,FE⟩=FF (.string ⟨#[]⟩):=by rw[Gn _ _ _ _ _ _ k2];rfl
 have c3:w2.cell? ⟨w.heap.size,3,FE⟩=FF (.int .i64 0):=by rw[Gn _ _ _ _ _ _ k2];rfl
 have fz:∀ j,w2.frozen? ⟨w.heap.size,j,FE⟩=false:=λj=>GS w2 _ j _ _ k2;have HK2:=FQ k2;clear k2;obtain⟨U,hU⟩:∃U:ByteArray,U=⟨(iR (s.data.toList.drop at0)).toArray⟩:=⟨_,rfl⟩;have hUs:U.size=(iR (s.data.toList.drop at0)).length:=by rw[hU,AU]
 rw[<-hU];rcases HSR.out with ⟨h1,h2⟩|⟨h1,h2,h3⟩
 ·have hU0:U=⟨#[]⟩:=by rw[hU,h1]
  have HP:Hid (fN s.data.toList at0 (.returned (.tuple #[.agg #[.int .i64 0,.int .i64 0,.string ⟨#[]⟩,.int .i64 0],.int .i64 0,.int .i64 110]))):=.inl ⟨110,rfl,h2,by omega⟩;clear hU hUs h1 h2;subst hU0;go_wp2;refine FL (gh rfl _ _ w.heap.size _ _ _ _ _ _ rfl (sC _ _ _ _ HK2.out)) rfl ?_;exact⟨HP.out,mR _ _ _ _ B2 (by omega)⟩
 ·have hln:0<(iR (s.data.toList.drop at0)).length:=List.length_pos_iff.2 h1;have hdl:(s.data.toList.drop at0).length=s.size-at0:=by rw[List.length_drop,HL.out]
  have h4:at0+U.size<=s.size:=by omega
  have hne:U.toList.isEmpty=false:=om (by omega);have HP:Hid (fN s.data.toList at0 (.returned (.tuple #[.agg #[.int .i64 4,.int .i64 0,.string U,.int .i64 (at0:Nat)],.int .i64 ((at0:Int)+(U.size:Int)),.int .i64 0]))):=by
   refine .inr ⟨⟨4,0,iR (s.data.toList.drop at0),at0⟩,at0+U.size,?_,by omega,by rw[HL.out];exact h4,?_⟩
   ·simp only[tka,<-hU,Int.natCast_add];rfl
   ·rw[h3,<-hUs,List.drop_drop]
  have h4I:(at0:Int)+(U.size:Int)<=2000:=by omega
  clear hU hUs h1 h2 h3 hln hdl;go_wp2;refine FL (gh rfl _ _ w.heap.size _ _ _ _ _ _ rfl (sC _ _ _ _ HK2.out)) rfl ?_;exact⟨HP.out,mR _ _ _ _ B2 (by omega)⟩
theorem AC (s:ByteArray)(at0:Nat)(w:FI)(hat:at0<s.size)(hs:s.size<=2000)(hb:blk (s[at0]).toNat=false) :
  FW FH 50 #[.string s,.int .i64 (at0:Nat)] w λe w'=>fN s.data.toList at0 e/\FP w.heap.size w w':=by
 cases hd:dig (s[at0]'hat).toNat
 ·cases hsm:sml (s[at0]'hat).toNat
  ·cases hgr:grt (s[at0]'hat).toNat
   ·exact sY s at0 w hat hs hb hd hsm hgr
   ·exact sF s at0 w hat hs hb hd hsm hgr
  ·exact rl s at0 w hat hs hb hd hsm
 ·exact vQ s at0 w hat hs hb hd
abbrev I44:Nat->Prop:=λk=>k=4
theorem pR {w wr:FI}{o:Nat->Nat}(h:dQ I44 w (λ_=>0) wr o):FP w.heap.size w wr:=h.below (λ_ _ h=>by cases h)
structure RsQ (l:List UInt8)(w wr:FI)(o:Nat->Nat)(v:FO)(q:Nat)(ts:List Tk):Prop where
 row:Row wr o 4 67 4 v ts.length (fs ts)
 len:ts.length<=q
 run:oK ts (eZ 0 [] q q (l.drop q))=oZ l
 stp:dQ I44 w (λ_=>0) wr o
theorem BK (s:ByteArray)(w:FI)(hs:s.size<=F9) :
  FW FH 27 #[.string s] w λe w'=>∃v er at0,e=.returned (.tuple #[v,.int .i64 er,.int .i64 at0])/\Cb w w' v er at0 (io s.data.toList)/\FP w.heap.size w w':=by
 unfold F9 at hs;have HL:Hid (s.data.toList.length=s.size):=fa s;by_cases hbig:2000<s.size
 ·have fin:io s.data.toList=.inl (113,0):=by
   unfold io;rw[HL.out,if_pos hbig]
  have hI:(2000:Int)<(s.size:Int):=by omega
  go_enter Tryz.func27,Tryz.ntmps27;go_wp2;go_ret3;exact⟨_,_,_,rfl,Hz ⟨113,0,fin,rfl,rfl,rfl⟩,b0 _⟩
 ·have HF:Hid (io s.data.toList=oZ s.data.toList):=by
   show _=_;unfold io;rw[HL.out,if_neg hbig]
  have hs2:s.size<=2000:=by omega
  have hI:¬(2000:Int)<(s.size:Int):=by omega
  obtain⟨ii,hii,hz0,hz1,hz2⟩:=ek xH;go_enter Tryz.func27,Tryz.ntmps27;go_wp2_with fail;go_loopw [5,6] (λv5 v6 wr=>∃q ts o,v6=.int .i64 (q:Nat)/\q<=s.size/\RsQ s.data.toList w wr o v5 q ts) (λ_ v6 _=>s.size-(Gq v6).toNat)
  case atStart=>exact⟨0,[],λ_=>0,by go_num,by omega,Row.nil _ _ _ _ _,by simp,rfl,dQ.refl _ _ _⟩
  case round =>
   obtain⟨q,ts,o,rfl,hq,J⟩:=hrel;have hB:=pR J.stp;have hlen:=J.len;by_cases hlt:q<s.size
   ·have hqI:(q:Int)<(s.size:Int):=by omega
    have hql:q<s.data.toList.length:=by rw[HL.out];exact hlt
    have hbq:(s[q]'hlt).toNat<256:=Hb _;have hda:=lQ s.data.toList q hql;rw[eX s q hlt hql] at hda;cases hb:blk (s[q]'hlt).toNat
    ·have HJ:=FQ J;clear J hda;go_wp2_with (first|(go_at_call 49;refine(CN _ _ hbq).mono ?_;rw[hb];rintro e w1 ⟨rfl,rfl⟩)|(go_at_call 50;refine(AC s q _ hlt hs2 hb).mono ?_;rintro e w2 ⟨⟨er,rfl,h1,h2⟩|⟨x,nx,rfl,h1,h2,h3⟩,hb2⟩<;>refine Hid.out ?_))
     ·refine FQ ?_;have her0:¬(er:Int)=0:=by omega
      have herb:((er:Int) != 0)=true:=by simpa using her0
      have fin:oZ s.data.toList=.inl (er,q):=by
       rw[<-HJ.out.run,h1,Al]
      have HN:=FQ fin;clear fin h1;have hbw:=hB.trans (hb2.mono hB.size);go_wp2;go_ret3;exact⟨_,_,_,rfl,Hz ⟨er,q,HF.out.trans HN.out,rfl,rfl,rfl⟩,hbw.trans ((b1 _ _).mono hbw.size)⟩
     ·refine FQ ?_;obtain⟨xk,xn,xt,xa⟩:=x;rw[HL.out] at h2;have J:=HJ.out;have s2:dQ (λ_=>False) w1 o w2 o:=dQ.ofBelow o hb2;have R3':=(J.row.step s2 (by simp)).step ((gx (λ_=>False) w2 o (.cells #[.int .i64 (xk:Nat),.int .i64 xn,.string ⟨xt.toArray⟩,.int .i64 (xa:Nat)] 67)).alloc (.cells #[.int .i64 (xk:Nat),.int .i64 xn,.string ⟨xt.toArray⟩,.int .i64 (xa:Nat)] 67)) (by simp);have hps:ts.length<=2001:=by omega
      have HR:Hid (oK (ts++[⟨xk,xn,xt,xa⟩]) (eZ 0 [] nx nx (s.data.toList.drop nx))=oZ s.data.toList):=by
       show _=_;rw[wI,<-J.run,h3]
      clear J s2 h3;simp only[tka];go_wp2_with (first|(at_builtin;refine eb rfl (.tmp 34) (.tmp 36) 59 rfl 67 ii (.agg #[.int .i64 0,.int .i64 0,.string ⟨#[]⟩,.int .i64 0]) 4 40 Tryz.underlying59 hii hz0 hz1 hz2 rfl (by decide) o 4 _ ts.length (fs ts) rfl R3' ⟨w2.heap.size+1,0,FE⟩ 1 1 [.int .i64 (xk:Nat),.int .i64 xn,.string ⟨xt.toArray⟩,.int .i64 (xa:Nat)] rfl rfl ?c1 ?c2 (by decide) ?c3 ?c4 ?_)|go_in)
      case c1=>exact mV (by simp) _ _ _ _ _
      case c2=>intro u hu;simp at hu;rcases hu with rfl|rfl|rfl|rfl<;>rfl
      case c3=>unfold F9;omega
      case c4=>omega
      intro g5 cap5 w5 o5 R5 s5';have J:=HJ.out;have s5:dQ (λk=>k=4) w1 o w5 o5:=(((dQ.ofBelow (I:=λk=>k=4) o hb2).alloc _).alloc _).trans s5';have RR:Row w5 o5 4 67 4 (.slice (FF ⟨g5,0,FE⟩) (ts.length+1) cap5) (ts++[Tk.mk xk xn xt xa]).length (fs (ts++[Tk.mk xk xn xt xa])):=by
       rw[mO,Gf];exact R5
      have JN:RsQ s.data.toList w w5 o5 (.slice (FF ⟨g5,0,FE⟩) (ts.length+1) cap5) nx (ts++[Tk.mk xk xn xt xa]):=⟨RR,by simp;omega,HR.out,J.stp.trans s5⟩;have HN:=FQ JN;clear R3' R5 s5' RR J s5 JN;go_wp2;go_roundw
      case rel=>(try ((repeat apply Gc);refine⟨?_,rfl⟩));exact⟨nx,_,o5,by go_num,by omega,HN.out⟩
      case measure=>simp[Gq];omega
    ·have JN:RsQ s.data.toList w wr o u5 (q+1) ts:=by
      refine⟨J.row,by omega,?_,J.stp⟩;have h1:=J.run;rw[hda,fR (k:=0) (by exact hb),lf _ [] _ (q+1)] at h1;exact h1
     have HN:=FQ JN;clear J JN hda;go_wp2_with (go_at_call 49;refine(CN _ _ hbq).mono ?_;rw[hb];rintro e w1 ⟨rfl,rfl⟩);go_roundw
     case rel=>(try ((repeat apply Gc);refine⟨?_,rfl⟩));exact⟨q+1,ts,o,by go_num,by omega,HN.out⟩
     case measure=>simp[Gq];omega
   ·obtain rfl:q=s.size:=by omega
    have hps:ts.length<=2001:=by omega
    have HJ:=FQ J;have R3':=J.row.step (gx (λ_=>False) wr o (.cells #[.int .i64 0,.int .i64 0,.string ⟨#[]⟩,.int .i64 (s.size:Nat)] 67)) (by simp);clear J;go_wp2_with (first|(at_builtin;refine eb rfl (.tmp 39) (.tmp 43) 59 rfl 67 ii (.agg #[.int .i64 0,.int .i64 0,.string ⟨#[]⟩,.int .i64 0]) 4 40 Tryz.underlying59 hii hz0 hz1 hz2 rfl (by decide) o 4 _ ts.length (fs ts) rfl R3' ⟨wr.heap.size,0,FE⟩ 1 1 [.int .i64 0,.int .i64 0,.string ⟨#[]⟩,.int .i64 (s.size:Nat)] rfl rfl ?d1 ?d2 (by decide) ?d3 ?d4 ?_)|go_in)
    case d1=>exact mV (by simp) _ _ _ _ _
    case d2=>intro u hu;simp at hu;rcases hu with rfl|rfl|rfl|rfl<;>rfl
    case d3=>unfold F9;omega
    case d4=>omega
    intro g5 cap5 w5 o5 R5 s5';have J:=HJ.out;have s5:dQ (λk=>k=4) wr o w5 o5:=(gx _ wr o _).trans s5';have S5:=J.stp.trans s5;have RN:oZ s.data.toList=.inr (ts++[⟨0,0,[],s.size⟩]):=by
     have:=J.run
     rw[List.drop_of_length_le (by rw[HL.out];exact FG _)] at this;rw[<-this];exact yu _ _
    have RR:Row w5 o5 4 67 4 (.slice (FF ⟨g5,0,FE⟩) (ts.length+1) cap5) (ts++[Tk.mk 0 0 [] s.size]).length (fs (ts++[Tk.mk 0 0 [] s.size])):=by
     rw[mO,Gf];exact R5
    have OR:=RR.fresh S5;have hbe:=pR S5;have HN:=FQ RN;clear R3' R5 s5' RR J s5 RN S5;go_wp2;go_ret3;exact⟨_,_,_,rfl,Or.inr ⟨_,HF.out.trans HN.out,rfl,rfl,OR⟩,hbe⟩
theorem Cs (w:FI)(k:Nat):w.drew.heap[k]?=w.heap[k]?:=rfl
theorem ya {wx:FI}{bq er a:Nat}(d:wx.heap[bq]?=FF (.cells #[.int .i64 er,.int .i64 a] 113)):wx.cell? ⟨bq,0,FE⟩=FF (.int .i64 er)/\wx.cell? ⟨bq,1,FE⟩=FF (.int .i64 a):=by
 obtain⟨c,b,-⟩:=Blk.cells2 (o:=λ_=>0) (i:=0) ⟨d,rfl⟩;exact⟨c,b⟩
section
variable {w w1:FI}{B bq er a:Nat}{v0 v1 v2 v3 v4 ve va:FO}
theorem cf7 (b:w1.heap[bq]?=FF (.cells #[.int .i64 er,.int .i64 a] 113))(c:B+2<bq):((F7 (F7 (F7 (F7 (F7 (F7 (F7 w1 ⟨B,0,FE⟩ (.int .i64 0)) ⟨B,1,FE⟩ (.int .i64 0)) ⟨B,2,FE⟩ (.string ⟨#[]⟩)) ⟨B,3,FE⟩ (.slice FE 0 0)) ⟨B,4,FE⟩ (.int .i64 0)) ⟨B+1,0,FE⟩ (.int .i64 er)) ⟨B+2,0,FE⟩ (.int .i64 a))).drew.cell? ⟨bq,0,FE⟩=FF (.int .i64 er)/\((F7 (F7 (F7 (F7 (F7 (F7 (F7 w1 ⟨B,0,FE⟩ (.int .i64 0)) ⟨B,1,FE⟩ (.int .i64 0)) ⟨B,2,FE⟩ (.string ⟨#[]⟩)) ⟨B,3,FE⟩ (.slice FE 0 0)) ⟨B,4,FE⟩ (.int .i64 0)) ⟨B+1,0,FE⟩ (.int .i64 er)) ⟨B+2,0,FE⟩ (.int .i64 a))).drew.cell? ⟨bq,1,FE⟩=FF (.int .i64 a):=ya (wx:=((F7 (F7 (F7 (F7 (F7 (F7 (F7 w1 ⟨B,0,FE⟩ (.int .i64 0)) ⟨B,1,FE⟩ (.int .i64 0)) ⟨B,2,FE⟩ (.string ⟨#[]⟩)) ⟨B,3,FE⟩ (.slice FE 0 0)) ⟨B,4,FE⟩ (.int .i64 0)) ⟨B+1,0,FE⟩ (.int .i64 er)) ⟨B+2,0,FE⟩ (.int .i64 a))).drew) ((Cs _ bq).trans ((FU (F7 (F7 (F7 (F7 (F7 (F7 w1 ⟨B,0,FE⟩ (.int .i64 0)) ⟨B,1,FE⟩ (.int .i64 0)) ⟨B,2,FE⟩ (.string ⟨#[]⟩)) ⟨B,3,FE⟩ (.slice FE 0 0)) ⟨B,4,FE⟩ (.int .i64 0)) ⟨B+1,0,FE⟩ (.int .i64 er)) ⟨B+2,0,FE⟩ bq (.int .i64 a) (show bq≠B+2 by omega)).trans ((FU (F7 (F7 (F7 (F7 (F7 w1 ⟨B,0,FE⟩ (.int .i64 0)) ⟨B,1,FE⟩ (.int .i64 0)) ⟨B,2,FE⟩ (.string ⟨#[]⟩)) ⟨B,3,FE⟩ (.slice FE 0 0)) ⟨B,4,FE⟩ (.int .i64 0)) ⟨B+1,0,FE⟩ bq (.int .i64 er) (show bq≠B+1 by omega)).trans ((ie w1 B bq (.int .i64 0) (.int .i64 0) (.string ⟨#[]⟩) (.slice FE 0 0) (.int .i64 0) (by omega)).trans b))))
end
def CT (w:FI)(b:Rs Ex)(e:Hk)(w':FI):Prop :=
 match b with
 | ⟨FE⟩=>False
 | ⟨FF (.inl (er,a))⟩=>e=.returned (.tuple #[exV fI FE 0,.int .i64 er,.int .i64 a])/\FP w.heap.size w w'
 | ⟨FF (.inr (x,_))⟩=>∃ao cap,e=.returned (.tuple #[exV x ao cap,.int .i64 0,.int .i64 0])/\Sl w' (Nw w.heap.size) x.kids ao/\FP w.heap.size w w'
theorem QS.bad5 {w:FI}{rb o q er a:Nat}{all:List Tk}(h:QS w rb all o q (.inl (er,a))):((er:Int)==0)=false/\w.cell? ⟨rb,4,FE⟩=FF (.int .i64 er)/\w.cell? ⟨rb,5,FE⟩=FF (.int .i64 a):=by
 obtain⟨i,o',c,h1,h2,d⟩:=h;obtain⟨_,_,_,_,_,_,_,_,_,_,_,c4,c5,b⟩:=h1.next (FN h2);exact⟨by simp;omega,c4,c5⟩
theorem QS.new {w:FI}{g a:Nat}{ts:List Tk}(d:g<w.heap.size)(i:∀ j u,(fs ts)[j]?=FF u->w.cell? ⟨g,j,FE⟩=FF u)(h:ts.length<=3000)(c:ts.length<=a)(b:a<=F9)(e:WFT ts) :
  QS (w.alloc (.cells #[.slice (FF ⟨g,0,FE⟩) ts.length a,.int .i64 0,.int .i64 0,.int .i64 0,.int .i64 0,.int .i64 0] 64)) w.heap.size ts 0 0 (.inr ts) :=
 ⟨0,0,⟨g,a,FM w _,d,λj u f=>(((FS _ w).alloc (FG _) _).cell (p:=⟨g,j,FE⟩) d).trans (i j u f),h,c,b⟩,rfl,e,by omega,by omega⟩
theorem wg {w:FI}{b0:Nat}{v:FO}{ts:List Tk}(k:w.ownsRow b0 67 4 v ts.length (fs ts))(l:0<ts.length):∃g cap,v=.slice (FF ⟨g,0,FE⟩) ts.length cap/\g<w.heap.size/\ts.length<=cap/\cap<=F9/\∀ j u,(fs ts)[j]?=FF u->w.cell? ⟨g,j,FE⟩=FF u:=by
 have f:Row w (λ_=>0) 0 67 4 v ts.length (fs ts):=⟨pi k,λ_ _=>rfl⟩;obtain⟨g,cap,rfl,-,e,d,i,a,-⟩:=f.pos l;refine⟨g,cap,rfl,i,e,d,λj u c=>?_⟩;rw[a j ?_]
 ·exact c
 ·have b:=f.len;rw[<-b];by_cases h:j<(fs ts).length
  ·exact h
  ·rw[Gm (by omega)] at c;cases c
theorem zS {n:Nat}{ts:List Tk}{X:Ex}{er a:Nat}(c:Nou (fH n 1 0 0) (.inr ts))(Q:Qd (fH n 1 0 0) (.inr ts) X (.inl (er,a))):i8 n ts=.bad er a:=by
 have h1:=Q.1;simp only[onw] at h1;unfold i8;cases b:fH n 1 0 0 ts using Rs.on with
 | out=>exact absurd b (c ts rfl)
 | bad d a2 =>
  rw[b] at h1;simp only[stp] at h1;injection h1 with h1
  injection h1 with h1 h2
  subst h1 h2;rfl
 | ok y t=>rw[b] at h1;cases h1
theorem xI {n:Nat}{ts:List Tk}{X:Ex}{y:Tk}{r:List Tk}(c:Nou (fH n 1 0 0) (.inr ts))(Q:Qd (fH n 1 0 0) (.inr ts) X (.inr (y::r))):i8 n ts=if y.k=0 then .ok X (y::r) else .bad 120 y.a:=by
 have h1:=Q.1;simp only[onw] at h1;unfold i8;cases b:fH n 1 0 0 ts using Rs.on with
 | out=>exact absurd b (c ts rfl)
 | bad d a2=>rw[b] at h1;cases h1
 | ok z t =>
  rw[b] at h1;simp only[stp] at h1;injection h1 with h1
  subst h1;rw[Q.2 ts z _ rfl b];rfl
theorem vl (s:ByteArray)(w:FI)(hs:s.size<=F9) :
  FW FH 8 #[.string s] w (CT w (fW s.data.toList)):=by
 obtain⟨W,f⟩:=exq (fW s.data.toList);rw[<-f];have HW:Hid (W=fW s.data.toList):=f;have hn:W≠.out:=by rw[f];exact tR _
 have B0:FP w.heap.size w (w.alloc exZ):=(FS _ w).alloc (FG _) _;have Z0:(w.alloc exZ).heap[w.heap.size]?=FF exZ:=FM w _;have al:w.heap.size<(w.alloc exZ).heap.size:=by simp
 have c1:=BK s (w.alloc exZ) hs;clear f;go_enter Tryz.func8,Tryz.ntmps8;go_wp2_with fail;refine c1.mono ?_;rintro e w1 ⟨v,er,az,rfl,hO,b1⟩;have B1:FP w.heap.size w w1:=B0.trans (b1.mono (by omega));have V:=(b1.block _ al).trans Z0;have O:w.heap.size<w1.heap.size:=FJ V;clear c1 b1 Z0 B0;rcases hO with ⟨e,p,K,rfl,rfl,rfl⟩|⟨ts,K,rfl,rfl,J⟩
 ·have he:=qC K;have am:((e:Int)==0)=false:=by rw[beq_eq_false_iff_ne];omega
  have ap:((e:Int) != 0)=true:=by simpa using am
  have m:Hid (W=.bad e p):=by show W=_;rw[HW.out];unfold fW;rw[K]
  have F:=((((B1.setCell (p:=⟨w.heap.size,0,FE⟩) (FG _) (.int .i64 0)).setCell (p:=⟨w.heap.size,1,FE⟩) (FG _) (.int .i64 0)).setCell (p:=⟨w.heap.size,2,FE⟩) (FG _) (.string ⟨#[]⟩)).setCell (p:=⟨w.heap.size,3,FE⟩) (FG _) (.slice FE 0 0)).setCell (p:=⟨w.heap.size,4,FE⟩) (FG _) (.int .i64 0);have D:=eS (.int .i64 0) (.int .i64 0) (.string ⟨#[]⟩) (.slice FE 0 0) (.int .i64 0) V;have M:Hid (∃c,c=(F7 (F7 (F7 (F7 (F7 w1 ⟨w.heap.size,0,FE⟩ (.int .i64 0)) ⟨w.heap.size,1,FE⟩ (.int .i64 0)) ⟨w.heap.size,2,FE⟩ (.string ⟨#[]⟩)) ⟨w.heap.size,3,FE⟩ (.slice FE 0 0)) ⟨w.heap.size,4,FE⟩ (.int .i64 0))/\c.cell? ⟨w.heap.size,0,FE⟩=FF (.int .i64 0)/\c.cell? ⟨w.heap.size,1,FE⟩=FF (.int .i64 0)/\c.cell? ⟨w.heap.size,2,FE⟩=FF (.string ⟨#[]⟩)/\c.cell? ⟨w.heap.size,3,FE⟩=FF (.slice FE 0 0)/\c.cell? ⟨w.heap.size,4,FE⟩=FF (.int .i64 0)/\FP w.heap.size w c):=by
   obtain⟨A,z,u,u3,t,-⟩:=dT D;exact⟨_,rfl,A,z,u,u3,t,F⟩
  obtain⟨z0,z1,z2,z3,z4,zf⟩:=dT V;clear D F;clear HW K B1 V he;go_wp2;obtain⟨c,d,A,z,u,u3,t,BZ⟩:=M.out;clear M;rw[<-d];clear d;exact FL (v:=.tuple #[exV fI FE 0,.int .i64 e,.int .i64 p]) (by simp[results,Tryz.results8,go_sem,A,z,u,u3,t,exV,fI,Fs.len]) rfl (by rw[m.out];exact⟨rfl,BZ⟩)
 ·have P:=mf K;have f:W=i8 30000 ts:=by rw[HW.out];unfold fW;rw[K]
  have H:Hid (W=i8 30000 ts):=f;have j:Nou (fH 30000 1 0 0) (.inr ts):=λt0 h0 e=>hn (by cases h0;rw[f];unfold i8;rw[e];rfl);have ac:WFT ts:=ux _ _ _ _ _ _ P.2.1;have TI:∀ x,x ∈ ts->iq x:=λx hx s h1 h2=>(Ek K x hx).is h1 h2;obtain⟨g,o,rfl,hg,ah,ag,C⟩:=wg J P.2.2.2.2.1;have hA:=QS.new hg C (by omega) ah ag ac;have kA:=(dX.refl w1.heap.size w1).alloc (.cells #[.slice (FF ⟨g,0,FE⟩) ts.length o,.int .i64 0,.int .i64 0,.int .i64 0,.int .i64 0,.int .i64 0] 64);have ZA:=(FT w1 (.cells #[.slice (FF ⟨g,0,FE⟩) ts.length o,.int .i64 0,.int .i64 0,.int .i64 0,.int .i64 0,.int .i64 0] 64) _ O).trans V;have BA:=B1.alloc (by omega) (.cells #[.slice (FF ⟨g,0,FE⟩) ts.length o,.int .i64 0,.int .i64 0,.int .i64 0,.int .i64 0,.int .i64 0] 64);have c2:=(uN 30000 (by omega)).1 _ _ ts 1 0 0 _ TI (by omega) (by omega) hA j;have ak:(w1.alloc (.cells #[.slice (FF ⟨g,0,FE⟩) ts.length o,.int .i64 0,.int .i64 0,.int .i64 0,.int .i64 0,.int .i64 0] 64)).heap.size=w1.heap.size+1:=by simp
  have ad:=hA.lt;clear HW K P J f C hA ac TI hn hg ah ag kA;go_wp2_with fail;refine c2.mono ?_;rintro e w2 ⟨X,ao,cap,st,rfl,S2,h2,k2,L⟩;have b2:=k2.below (GU O) ad;have Z2:=k2.blk ZA (by omega);have B2:=BA.trans b2;have aa:w.heap.size<w2.heap.size:=FJ Z2;have B:=h2.alloc (bxE X ao cap);have G:=(FT w2 (bxE X ao cap) _ aa).trans Z2;have I:=B2.alloc (by omega) (bxE X ao cap);have Y:(w2.alloc (bxE X ao cap)).heap[w2.heap.size]?=FF (bxE X ao cap):=FM w2 _;have Z:=S2.allocN (bxE X ao cap);have ai:w1.heap.size<w2.heap.size:=h2.lt;rw[dU];go_upto_region 6 with fail;generalize w2.alloc (bxE X ao cap)=w3 at *;obtain⟨xb,ab⟩:=exq w2.heap.size;rw[<-ab] at Y ai ⊢;have au:w.heap.size<xb:=by omega
  have aj:w.heap.size<w1.heap.size:=O;have Z:=Z.low (show w.heap.size+1<=_ from (by omega));clear c2 S2 h2 k2 b2 Z2 B2 BA ZA B1 V aa ab ak ad;generalize w1.heap.size=rb at *
  match st,B,L with
  | .inl (er,a),B,L =>
   have m:Hid (W=.bad er a):=by show W=_;rw[H.out];exact zS j L
   clear H L j;obtain⟨hb,d4,d5⟩:=B.bad5;have Q:((er:Int) != 0)=true:=by simpa using hb
   go_quiet (fail)
   have l:FP w3.heap.size w3 (w3.drewN nq):=bdr (FS _ _) nq;have U:=B.below l;have E:=(l.block _ (FJ G)).trans G;have N:=I.trans (l.mono I.size);generalize w3.drewN nq=w4 at *;clear l B G I Y Z hb d4 d5 Q;obtain⟨hb,d4,d5⟩:=U.bad5;have Q:((er:Int) != 0)=true:=by simpa using hb
   have F:=((((N.setCell (p:=⟨w.heap.size,0,FE⟩) (FG _) (.int .i64 0)).setCell (p:=⟨w.heap.size,1,FE⟩) (FG _) (.int .i64 0)).setCell (p:=⟨w.heap.size,2,FE⟩) (FG _) (.string ⟨#[]⟩)).setCell (p:=⟨w.heap.size,3,FE⟩) (FG _) (.slice FE 0 0)).setCell (p:=⟨w.heap.size,4,FE⟩) (FG _) (.int .i64 0);have D:=eS (.int .i64 0) (.int .i64 0) (.string ⟨#[]⟩) (.slice FE 0 0) (.int .i64 0) E;have M:Hid (∃c,c=(F7 (F7 (F7 (F7 (F7 w4 ⟨w.heap.size,0,FE⟩ (.int .i64 0)) ⟨w.heap.size,1,FE⟩ (.int .i64 0)) ⟨w.heap.size,2,FE⟩ (.string ⟨#[]⟩)) ⟨w.heap.size,3,FE⟩ (.slice FE 0 0)) ⟨w.heap.size,4,FE⟩ (.int .i64 0))/\c.cell? ⟨w.heap.size,0,FE⟩=FF (.int .i64 0)/\c.cell? ⟨w.heap.size,1,FE⟩=FF (.int .i64 0)/\c.cell? ⟨w.heap.size,2,FE⟩=FF (.string ⟨#[]⟩)/\c.cell? ⟨w.heap.size,3,FE⟩=FF (.slice FE 0 0)/\c.cell? ⟨w.heap.size,4,FE⟩=FF (.int .i64 0)/\FP w.heap.size w c):=by
    obtain⟨A,z,u,u3,t,-⟩:=dT D;exact⟨_,rfl,A,z,u,u3,t,F⟩
   obtain⟨z0,z1,z2,z3,z4,zf⟩:=dT E;clear D F;clear U N E;go_upto_region 9 with fail;go_region
   all_goals
    go_wp2;obtain⟨c,d,A,z,u,u3,t,BZ⟩:=M.out;clear M;have S:=BZ.drew;rw[<-d];clear d;exact FL (v:=.tuple #[exV fI FE 0,.int .i64 er,.int .i64 a]) (by simp[results,Tryz.results8,go_sem,A,z,u,u3,t,exV,fI,Fs.len]) rfl (by rw[m.out];exact⟨rfl,S⟩)
  | .inr [],B,L=>exact absurd rfl (B.nn [] rfl)
  | .inr (y::r),B,L =>
   have q:Hid (W=if y.k=0 then .ok X (y::r) else .bad 120 y.a):=by show W=_;rw[H.out];exact xI j L
   clear H L j;obtain⟨i3,g3,ar,L3,ax,aw,aq,an,ay,af,d0,d1,-,-,d4,⟨t0,t1,t2,t3⟩,hf⟩:=B.ok;have av:(i3:Int)<(L3:Int):=by omega
   by_cases T:y.k=0
   ·have m:Hid (W=.ok X (y::r)):=by show W=_;rw[q.out,if_pos T]
    have bk:((y.k:Int)==0)=true:=by simp[T]
    have R:((y.k:Int) != 0)=false:=by simp[T]
    clear q T
    go_quiet (fail)
    have l:FP w3.heap.size w3 (w3.drewN nq):=bdr (FS _ _) nq;have e4:=(l.cell (p:=⟨rb,4,FE⟩) B.lt).trans d4;have E:=(l.block _ (FJ G)).trans G;have X4:=(l.block _ (FJ Y)).trans Y;have N:=I.trans (l.mono I.size);have S4:=Z.mono (λi _ hl=>l.block i hl) l.size (λ_ h _=>h);generalize w3.drewN nq=w4 at *;clear l B G I Y Z d0 d1 d4 t0 t1 t2 t3 hf af bk R;have F:=((((N.setCell (p:=⟨w.heap.size,0,FE⟩) (FG _) (.int .i64 X.k)).setCell (p:=⟨w.heap.size,1,FE⟩) (FG _) (.int .i64 X.n)).setCell (p:=⟨w.heap.size,2,FE⟩) (FG _) (stv X.nm)).setCell (p:=⟨w.heap.size,3,FE⟩) (FG _) (.slice ao X.kids.len cap)).setCell (p:=⟨w.heap.size,4,FE⟩) (FG _) (.int .i64 X.a);have D:=eS (.int .i64 X.k) (.int .i64 X.n) (stv X.nm) (.slice ao X.kids.len cap) (.int .i64 X.a) E;have SE:Sl _ (Nw w.heap.size) _ _:=(S4.set5 (b:=w.heap.size) (by omega) (.int .i64 X.k) (.int .i64 X.n) (stv X.nm) (.slice ao X.kids.len cap) (.int .i64 X.a)).low (by omega);obtain⟨z0,z1,z2,z3,z4,zf⟩:=dT E;obtain⟨x0,x1,x2,x3,x4,xf⟩:=dT X4;obtain⟨A,z,u,u3,t,-⟩:=dT D;clear D E X4 N S4;go_wp2;exact FL (v:=.tuple #[exV X ao cap,.int .i64 0,.int .i64 0]) (by simp[results,Tryz.results8,go_sem,A,z,u,u3,t,exV]) rfl (by rw[m.out];exact⟨ao,cap,rfl,SE,F⟩)
   ·have m:Hid (W=.bad 120 y.a):=by show W=_;rw[q.out,if_neg T]
    have bk:((y.k:Int)==0)=false:=by simp;omega
    have R:((y.k:Int) != 0)=true:=by simp;omega
    clear q T
    go_quiet (fail)
    have l:FP w3.heap.size w3 (w3.drewN nq):=bdr (FS _ _) nq;have U:=B.below l;have E:=(l.block _ (FJ G)).trans G;have N:=I.trans (l.mono I.size);generalize w3.drewN nq=w4 at *;clear l B G I Y Z d0 d1 d4 t0 t1 t2 t3 hf af bk R;have c5:FW FH 29 #[.pointer (FF ⟨rb,0,FE⟩),.int .i64 120] w4 λr' w'=>r'=.returned (.tuple #[])/\QS w' rb ts 0 0 (.inl (120,y.a))/\dX rb w4 w':=jA 120 (by decide) U;have ae:=U.lt;go_wp2_with fail;refine c5.mono ?_;rintro e w5 ⟨rfl,h5,k5⟩;have Z5:=k5.blk E (by omega);have B5:=N.trans (k5.below (GU aj) ae);clear c5 k5 E N U ae;obtain⟨hb,d4,d5⟩:=h5.bad5;have Q:((120:Int) != 0)=true:=by decide
    have F:=((((B5.setCell (p:=⟨w.heap.size,0,FE⟩) (FG _) (.int .i64 0)).setCell (p:=⟨w.heap.size,1,FE⟩) (FG _) (.int .i64 0)).setCell (p:=⟨w.heap.size,2,FE⟩) (FG _) (.string ⟨#[]⟩)).setCell (p:=⟨w.heap.size,3,FE⟩) (FG _) (.slice FE 0 0)).setCell (p:=⟨w.heap.size,4,FE⟩) (FG _) (.int .i64 0);have D:=eS (.int .i64 0) (.int .i64 0) (.string ⟨#[]⟩) (.slice FE 0 0) (.int .i64 0) Z5;have M:Hid (∃c,c=(F7 (F7 (F7 (F7 (F7 w5 ⟨w.heap.size,0,FE⟩ (.int .i64 0)) ⟨w.heap.size,1,FE⟩ (.int .i64 0)) ⟨w.heap.size,2,FE⟩ (.string ⟨#[]⟩)) ⟨w.heap.size,3,FE⟩ (.slice FE 0 0)) ⟨w.heap.size,4,FE⟩ (.int .i64 0))/\c.cell? ⟨w.heap.size,0,FE⟩=FF (.int .i64 0)/\c.cell? ⟨w.heap.size,1,FE⟩=FF (.int .i64 0)/\c.cell? ⟨w.heap.size,2,FE⟩=FF (.string ⟨#[]⟩)/\c.cell? ⟨w.heap.size,3,FE⟩=FF (.slice FE 0 0)/\c.cell? ⟨w.heap.size,4,FE⟩=FF (.int .i64 0)/\FP w.heap.size w c):=by
     obtain⟨A,z,u,u3,t,-⟩:=dT D;exact⟨_,rfl,A,z,u,u3,t,F⟩
    obtain⟨z0,z1,z2,z3,z4,zf⟩:=dT Z5;clear D F;clear h5 B5 Z5;go_upto_region 9 with fail;go_region
    all_goals
     go_wp2;obtain⟨c,d,A,z,u,u3,t,BZ⟩:=M.out;clear M;have S:=BZ.drew;rw[<-d];clear d;exact FL (v:=.tuple #[exV fI FE 0,.int .i64 (120:Nat),.int .i64 (y.a:Nat)]) (by simp[results,Tryz.results8,go_sem,A,z,u,u3,t,exV,fI,Fs.len]) rfl (by rw[m.out];exact⟨rfl,S⟩)
def tkG (x:Tk):Prop:=-9223372036854775808<=x.n/\x.n<=9223372036854775807/\x.t.length<=2000/\x.a<=2000
def Fs.gd:Fs->Prop
 | ⟨FE⟩=>True
 | ⟨FF ⟨_,n,nm,a,ks,r⟩⟩=>-9223372036854775808<=n/\n<=9223372036854775807/\nm.length<=2000/\0<=a/\a<=2000/\ks.gd/\r.gd
theorem Fs.gd_app:∀ {x y:Fs},x.gd->y.gd->(x.app y).gd
 | ⟨FE⟩,y,h,k=>k
 | ⟨FF ⟨_,_,_,_,_,r⟩⟩,y,h,k=>⟨h.1,h.2.1,h.2.2.1,h.2.2.2.1,h.2.2.2.2.1,h.2.2.2.2.2.1,Fs.gd_app h.2.2.2.2.2.2 k⟩
def Ex.gd (e:Ex):Prop:=(one e).gd
def Ex.sz (e:Ex):Nat:=(one e).size
theorem Ex.gd_mk {k n:Int}{nm:List UInt8}{a:Nat}{ks:Fs}(h1:-9223372036854775808<=n)(h2:n<=9223372036854775807)(b:nm.length<=2000)(c:a<=2000)(h5:ks.gd):(⟨k,n,nm,(a:Nat),ks⟩:Ex).gd:=⟨h1,h2,b,by show (0:Int)<=(a:Nat);omega,by show ((a:Nat):Int)<=2000;omega,h5,trivial⟩
theorem Ex.sz_mk (k n:Int)(nm:List UInt8)(a:Int)(ks:Fs):(⟨k,n,nm,a,ks⟩:Ex).sz=ks.size+1:=rfl
theorem kw {x:Fs}{e:Ex}(h:x.gd)(k:e.gd):(x.snoc e).gd:=Fs.gd_app h k
theorem kO (x:Fs)(e:Ex):(x.snoc e).size=x.size+e.sz:=Fs.size_app x (one e)
def Gb {α:Type}(T:List Tk)(b:Nat)(P:α->Prop)(sz:α->Nat)(R:Rs α):Prop:=∀ x t,R=.ok x t->t <:+ T/\P x/\sz x+t.length<=b
section
variable {T:List Tk}
theorem Gb.bind {α β:Type}{b1 b:Nat}{P:α->Prop}{sz:α->Nat}{Q:β->Prop}{c:β->Nat}{R:Rs α}{f:α->List Tk->Rs β}(h:Gb T b1 P sz R)(d:∀ x t,t <:+ T->P x->sz x+t.length<=b1->Gb T b Q c (f x t)):Gb T b Q c (R.bind f):=by
 cases R using Rs.on with
 | out=>intro x t e;cases e
 | bad e a=>intro x t e;cases e
 | ok x t =>
  obtain⟨h1,h2,g⟩:=h x t rfl;exact d x t h1 h2 g
theorem Gb.bad {α:Type}{b e a:Nat}{P:α->Prop}{sz:α->Nat}:Gb T b P sz (.bad e a:Rs α):=λx t h=>by cases h
theorem Gb.out {α:Type}{b:Nat}{P:α->Prop}{sz:α->Nat}:Gb T b P sz (.out:Rs α):=λx t h=>by cases h
theorem Gb.ok {α:Type}{b:Nat}{P:α->Prop}{sz:α->Nat}{x:α}{t:List Tk}(h:t <:+ T)(c:P x)(a:sz x+t.length<=b):Gb T b P sz (.ok x t):=λy u e=>by
 obtain⟨f,d⟩:=Rs.ok_inj e;subst f d;exact⟨h,c,a⟩
theorem iW (b:∀ y,y ∈ T->tkG y)(s:List UInt8){ts:List Tk}(h:ts <:+ T):Gb T ts.length (λa=>a<=2000) (λ_=>1) (eE s ts):=by
 cases ts with
 | nil=>exact Gb.out
 | cons x r =>
  simp only[eE];split
  ·exact Gb.ok ((GI x r).trans h) (b x (h.mem (by simp))).2.2.2 (by simp;omega)
  ·exact Gb.bad
theorem vL (a:∀ y,y ∈ T->tkG y)(k:Nat){ts:List Tk}(h:ts <:+ T):Gb T ts.length tkG (λ_=>1) (gR k ts):=by
 cases ts with
 | nil=>exact Gb.out
 | cons x r =>
  simp only[gR];split
  ·exact Gb.ok ((GI x r).trans h) (a x (h.mem (by simp))) (by simp;omega)
  ·exact Gb.bad
theorem j7 (b:∀ y,y ∈ T->tkG y)(s:List UInt8)(o:Nat){ts:List Tk}(h:ts <:+ T):Gb T ts.length (λa=>a<=2000) (λ_=>1) (ej s o ts):=by
 cases ts with
 | nil=>exact Gb.out
 | cons x r =>
  simp only[ej];split
  ·split
   ·exact Gb.bad
   ·exact Gb.ok ((GI x r).trans h) (b x (h.mem (by simp))).2.2.2 (by simp;omega)
  ·exact Gb.bad
variable {rec:Rdr}
theorem rd (f:∀ y,y ∈ T->tkG y)(H:∀ row o q ts,ts <:+ T->Gb T ts.length Ex.gd Ex.sz (rec row o q ts)):∀ (j:Nat) (o q:Nat) (a:Fs) (ts:List Tk) (b:Nat),ts <:+ T->a.gd->a.size+ts.length<=b->Gb T b Fs.gd Fs.size (jl rec j o q a ts)
 | 0,o,q,a,ts,b,h,c,d=>Gb.ok h c d
 | j+1,o,q,a,ts,b,h,c,d=>by
  unfold jl;refine(iW f _ h).bind λ_ t1 h1 _ i=>(H _ _ _ _ h1).bind λe t2 h2 p2 g=>?_;exact rd f H j o q _ t2 b h2 (kw c p2) (by rw[kO];omega)
theorem vr (b:∀ y,y ∈ T->tkG y)(H:∀ row o q ts,ts <:+ T->Gb T ts.length Ex.gd Ex.sz (rec row o q ts))(a o q:Nat){ts:List Tk}(h:ts <:+ T):Gb T (ts.length-1) Fs.gd Fs.size (iz rec a o q ts):=by
 unfold iz;refine(j7 b _ _ h).bind λ_ t1 h1 _ j=>(H _ _ _ _ h1).bind λe t2 h2 p2 c=>?_;refine(rd b H _ _ _ _ t2 t1.length h2 p2 c).bind λks t3 f p3 i=>?_;exact(iW b _ f).bind λ_ t4 d _ g=>Gb.ok d p3 (by omega)
theorem xd (b:∀ y,y ∈ T->tkG y)(H:∀ row o q ts,ts <:+ T->Gb T ts.length Ex.gd Ex.sz (rec row o q ts))(o q:Nat){ts:List Tk}(h:ts <:+ T):Gb T ts.length Ex.gd Ex.sz (gq rec o q ts):=by
 unfold gq;refine(j7 b _ _ h).bind λa t1 h1 p1 n=>(H _ _ _ _ h1).bind λx t2 h2 p2 m=>?_;refine(iW b _ h2).bind λ_ t3 f _ l=>(H _ _ _ _ f).bind λy t4 e p4 k=>?_;refine(iW b _ e).bind λ_ t5 h5 _ j=>(H _ _ _ _ h5).bind λz g d c i=>?_;refine Gb.ok d (Ex.gd_mk (by omega) (by omega) (by simp) p1 (kw (kw p2 p4) c)) ?_;rw[Ex.sz_mk,kO,kO];show x.sz+y.sz+z.sz+1+_<=_;omega
theorem uV (f:∀ y,y ∈ T->tkG y)(H:∀ row o q ts,ts <:+ T->Gb T ts.length Ex.gd Ex.sz (rec row o q ts)):∀ (m:Nat) (o q:Nat) (a:Fs) (ts:List Tk) (b:Nat),ts <:+ T->a.gd->a.size+ts.length<=b->Gb T b Fs.gd Fs.size (jO rec m o q a ts)
 | 0,o,q,a,ts,b,h,c,d=>Gb.out
 | m+1,o,q,a,[],b,h,c,d=>Gb.out
 | m+1,o,q,a,x::r,b,h,c,d=>by
  have _:=f;unfold jO;simp only;split
  ·simp only[Gg] at d;refine(H _ _ _ _ ((GI x r).trans h)).bind λe t2 h2 p2 g=>?_;exact uV f H m o q _ t2 b h2 (kw c p2) (by rw[kO];omega)
  ·exact Gb.ok h c d
theorem Da (b:∀ y,y ∈ T->tkG y)(H:∀ row o q ts,ts <:+ T->Gb T ts.length Ex.gd Ex.sz (rec row o q ts))(m o q:Nat){ts:List Tk}(h:ts <:+ T):Gb T ts.length Fs.gd Fs.size (mG rec m o q ts):=by
 cases ts with
 | nil=>exact Gb.out
 | cons x r =>
  unfold mG;simp only;split
  ·exact Gb.ok h trivial (by simp[Fs.size])
  ·exact(H _ _ _ _ h).bind λe t1 h1 p1 a=>uV b H m o q _ t1 _ h1 p1 a
theorem Dc (b:∀ y,y ∈ T->tkG y)(H:∀ row o q ts,ts <:+ T->Gb T ts.length Ex.gd Ex.sz (rec row o q ts))(m o q:Nat){ts:List Tk}(h:ts <:+ T):Gb T ts.length Ex.gd Ex.sz (iO rec m o q ts):=by
 cases ts with
 | nil=>exact Gb.out
 | cons x r =>
  have c:=b x (h.mem (by simp));have d:r <:+ T:=(GI x r).trans h;unfold iO;simp only;split
  ·exact Gb.ok d (Ex.gd_mk (by omega) (by omega) c.2.2.1 c.2.2.2 trivial) (by rw[Ex.sz_mk];simp[Fs.size];omega)
  ·split
   ·exact Gb.ok d (Ex.gd_mk (by omega) (by omega) (by simp) c.2.2.2 trivial) (by rw[Ex.sz_mk];simp[Fs.size];omega)
   ·split
    ·exact(vr b H 1 o q d).bind λks t h1 p1 e=>Gb.ok h1 (Ex.gd_mk (by omega) (by omega) (by simp) c.2.2.2 p1) (by rw[Ex.sz_mk];simp;omega)
    ·refine(j7 b _ _ h).bind λa t1 h1 p1 e=>(Da b H m _ q h1).bind λks t2 h2 p2 i=>(iW b _ h2).bind λ_ t3 f _ g=>?_;exact Gb.ok f (Ex.gd_mk (by omega) (by omega) (by simp) p1 p2) (by rw[Ex.sz_mk];omega)
theorem yF (c:∀ y,y ∈ T->tkG y)(H:∀ row o q ts,ts <:+ T->Gb T ts.length Ex.gd Ex.sz (rec row o q ts))(m:Nat)(s:List UInt8)(k o q:Nat)(w:k<=100){ts:List Tk}(h:ts <:+ T):Gb T ts.length Ex.gd Ex.sz (ge rec m s k o q ts):=by
 cases ts with
 | nil=>exact Gb.out
 | cons x r =>
  unfold ge;simp only;split
  ·exact Gb.bad
  ·refine(j7 c _ _ h).bind λa t1 h1 p1 v=>(vL c _ h1).bind λy t2 h2 p2 u=>(iW c _ h2).bind λ_ t3 i _ t=>?_;refine(Dc c H m _ _ i).bind λe t4 g p4 p=>(iW c _ g).bind λ_ t5 h5 _ n=>(H _ _ _ _ h5).bind λb j f d l=>?_;refine Gb.ok f (Ex.gd_mk (by omega) (by omega) p2.2.2.1 p1 (kw p4 d)) ?_;rw[Ex.sz_mk,kO];show e.sz+b.sz+1+_<=_;omega
theorem AJ (d:∀ y,y ∈ T->tkG y)(H:∀ row o q ts,ts <:+ T->Gb T ts.length Ex.gd Ex.sz (rec row o q ts))(m o q:Nat){ts:List Tk}(h:ts <:+ T):Gb T ts.length Ex.gd Ex.sz (fr rec m o q ts):=by
 cases ts with
 | nil=>exact Gb.out
 | cons x r =>
  have b:=d x (h.mem (by simp));have f:r <:+ T:=(GI x r).trans h;unfold fr;simp only;split
  ·exact Gb.ok f (Ex.gd_mk b.1 b.2.1 (by simp) b.2.2.2 trivial) (by rw[Ex.sz_mk];simp[Fs.size];omega)
  ·split
   ·exact Gb.ok f (Ex.gd_mk (by omega) (by omega) b.2.2.1 b.2.2.2 trivial) (by rw[Ex.sz_mk];simp[Fs.size];omega)
   ·split
    ·exact Gb.ok f (Ex.gd_mk (by omega) (by omega) (by simp) b.2.2.2 trivial) (by rw[Ex.sz_mk];simp[Fs.size];omega)
    ·split
     ·exact Gb.ok f (Ex.gd_mk (by omega) (by omega) (by simp) b.2.2.2 trivial) (by rw[Ex.sz_mk];simp[Fs.size];omega)
     ·split
      ·exact(vL d _ f).bind λy t h1 p1 j=>Gb.ok h1 (Ex.gd_mk p1.1 p1.2.1 (by simp) b.2.2.2 trivial) (by rw[Ex.sz_mk];simp[Fs.size];omega)
      ·split
       ·rw[AA];unfold De;exact(j7 d _ _ h).bind λ_ t1 h1 _ j=>(H _ _ _ _ h1).bind λe t2 h2 p2 n=>(iW d _ h2).bind λ_ t4 k _ l=>Gb.ok k p2 (by omega)
       ·split
        ·exact xd d H o q h
        ·split
         ·rename_i i
          have g:=Gr i;have c:∀ z ∈ gQ,z.2.1<=100:=by decide
          have a:=c _ g;simp only at a;exact(vr d H _ o q f).bind λks t h1 p1 j=>Gb.ok h1 (Ex.gd_mk (by omega) (by omega) (by simp) b.2.2.2 p1) (by rw[Ex.sz_mk];simp;omega)
         ·split
          ·rename_i i
           have g:=Gr i;have c:∀ z ∈ gm,z.2<=100:=by decide
           have a:=c _ g;simp only at a;exact yF d H m _ _ o q a h
          ·exact Gb.bad
theorem uy (c:∀ y,y ∈ T->tkG y)(H:∀ row o q ts,ts <:+ T->Gb T ts.length Ex.gd Ex.sz (rec row o q ts))(s:List UInt8)(k:Int)(row o q:Nat){ts:List Tk}(h:ts <:+ T):Gb T ts.length Ex.gd Ex.sz (fS rec s k row o q ts):=by
 cases ts with
 | nil=>exact Gb.out
 | cons x r =>
  have a:=c x (h.mem (by simp));have b:r <:+ T:=(GI x r).trans h;unfold fS;simp only;split
  ·split
   ·exact Gb.bad
   ·refine(H _ _ _ _ b).bind λe t2 h2 p2 d=>Gb.ok h2 (Ex.gd_mk (by omega) (by omega) (by simp) a.2.2.2 p2) ?_;rw[Ex.sz_mk];show e.sz+1+_<=_;simp only[Gg];omega
  ·exact H _ _ _ _ h
theorem pJ (i:∀ y,y ∈ T->tkG y)(H:∀ row o q ts,ts <:+ T->Gb T ts.length Ex.gd Ex.sz (rec row o q ts)):∀ (m row o q:Nat) (left:Ex) (ts:List Tk) (b:Nat),ts <:+ T->left.gd->left.sz+ts.length<=b->Gb T b Ex.gd Ex.sz (fM rec m row o q left ts)
 | 0,row,o,q,left,ts,b,h,f,g=>Gb.out
 | m+1,row,o,q,left,[],b,h,f,g=>Gb.out
 | m+1,row,o,q,left,x::r,b,h,f,g=>by
  have j:=i x (h.mem (by simp));have k:r <:+ T:=(GI x r).trans h;unfold fM;simp only;split
  ·exact Gb.ok h f g
  ·refine(H _ _ _ _ k).bind λe t2 h2 p2 l=>?_;simp only[Gg] at g;have d:∀ (z:Int),(⟨z,0,[],(x.a:Nat),(one left).snoc e⟩:Ex).gd:=λz=>Ex.gd_mk (by omega) (by omega) (by simp) j.2.2.2 (kw f p2);have c:∀ (z:Int),(⟨z,0,[],(x.a:Nat),(one left).snoc e⟩:Ex).sz+t2.length<=b:=λz=>by
    rw[Ex.sz_mk,kO];show left.sz+e.sz+1+_<=_;omega
   split
   ·exact Gb.ok h2 (d _) (c _)
   ·exact pJ i H m row o q _ t2 b h2 (d _) (c _)
end
theorem uA {T:List Tk}(a:∀ y,y ∈ T->tkG y):∀ (n row o q:Nat) (ts:List Tk),ts <:+ T->Gb T ts.length Ex.gd Ex.sz (fH n row o q ts)
 | 0,row,o,q,ts,h=>Gb.out
 | n+1,row,o,q,ts,h=>by
  have H:=uA a n;unfold fH;split
  ·exact uy a H _ _ _ _ _ h
  ·split
   ·exact uy a H _ _ _ _ _ h
   ·split
    ·exact AJ a H n o q h
    ·exact(H _ _ _ _ h).bind λl t h1 p1 b=>pJ a H n row o q l t _ h1 p1 b
theorem pU {k:Nat}{t:List UInt8}{a:Nat}{x:Tk}(h:jq k t a=.inr x):-9223372036854775808<=x.n/\x.n<=9223372036854775807/\x.t.length<=t.length:=by
 unfold jq at h;split at h
 ·unfold jm at h
  repeat' split at h
  all_goals first|(injection h with h;subst h;exact⟨by simp,by simp,FG _⟩)|cases h
 ·unfold ki at h;cases b:IU t with
  | ok v =>
   rw[b] at h;have c:=Go.Lib.atoiAll_bounds b;simp only at h;split at h
   ·cases h
   ·injection h with h
    subst h;exact⟨c.1,c.2,by simp⟩
  | _=>rw[b] at h;cases h
 ·unfold oT at h;split at h
  all_goals first|(injection h with h;subst h;exact⟨by simp,by simp,FG _⟩)|cases h
 ·cases h
theorem zG (k:Nat)(t:List UInt8)(a p:Nat)(l:List UInt8)(ts:List Tk)(h:eZ k t a p l=.inr ts)(g:t.length+l.length<=2000):∀ x,x ∈ ts->-9223372036854775808<=x.n/\x.n<=9223372036854775807/\x.t.length<=2000:=by
 induction l generalizing k t a p ts with
 | nil =>
  intro x b;rcases fv h with ⟨rfl,h1⟩|⟨j,y,i,e,h1,h2⟩
  ·injection h1 with h1
   subst h1;simp at b;subst b;exact⟨by simp,by simp,by simp⟩
  ·injection h1 with h1
   subst h1 h2;simp at b;rcases b with rfl|rfl
   ·have:=pU e
    simp only[Hj] at g;exact⟨this.1,this.2.1,by omega⟩
   ·exact⟨by simp,by simp,by simp⟩
 | cons c r d =>
  simp only[Gg] at g;cases f:tks k t c.toNat
  ·rw[fZ f] at h;rcases fv h with ⟨rfl,h1⟩|⟨j,y,i,e,h1,h2⟩
   ·exact d _ _ _ _ _ h1 (by simp;omega)
   ·subst h2;intro x b;rcases List.mem_cons.1 b with rfl|b
    ·have:=pU e
     exact⟨this.1,this.2.1,by omega⟩
    ·exact d _ _ _ _ _ h1 (by simp;omega) x b
  ·rw[fR f] at h;exact d _ _ _ _ _ h (by simp;omega)
theorem Fs.len_size:∀ (x:Fs),x.len<=x.size
 | ⟨FE⟩=>FG _
 | ⟨FF ⟨k,n,nm,a,ks,r⟩⟩=>by have:=Fs.len_size r;simp only[Fs.len,Fs.size];omega
theorem Fs.gd_all:∀ {x:Fs},x.gd->x.size<=100000000->x.short/\x.rng/\x.plc
 | ⟨FE⟩,h,b=>⟨trivial,trivial,trivial⟩
 | ⟨FF ⟨k,n,nm,a,ks,r⟩⟩,h,b=>by
  simp only[Fs.size] at b;obtain⟨h1,h2,f,e,h5,d,c⟩:=h;obtain⟨a1,a2,a3⟩:=Fs.gd_all d (by omega);obtain⟨b1,b2,b3⟩:=Fs.gd_all c (by omega)
  have:=Fs.len_size ks
  exact⟨⟨by unfold F9;omega,by omega,a1,b1⟩,⟨h1,h2,a2,b2⟩,⟨e,by omega,a3,b3⟩⟩
theorem zW {s:List UInt8}{x:Ex}{t:List Tk}(h:fW s=.ok x t):x.gd/\x.sz<=2001:=by
 obtain⟨a,E,d,h1,h2,i,g,h5⟩:=sV h;have e:io s=.inr (a++[E]):=by rw[tp d];exact h1
 have c:=mf e;have f:∀ y,y ∈ a++[E]->tkG y:=λy b=>by
  have a1:=zG _ _ _ _ _ _ h1 (by simpa using d) y b;have a2:=c.2.2.2.2.2 y b;exact⟨a1.1,a1.2.1,a1.2.2,by omega⟩
 obtain⟨_,g1,g2⟩:=uA f 30000 1 0 0 _ (List.suffix_refl _) x [E] h5;refine⟨g1,?_⟩
 have:=c.2.2.1
 omega
structure Ex.okT (x:Ex):Prop where
 fit:x.fit
 a0:0<=x.a
 a1:x.a<=2000
 plc:x.kids.plc
 size:x.kids.size<=2000
theorem pD {s:List UInt8}{x:Ex}{t:List Tk}(h:fW s=.ok x t):x.okT:=by
 obtain⟨g,a⟩:=zW h;have a:x.kids.size+1<=2001:=a;obtain⟨h1,h2,d,c,h5,b,_⟩:=g;obtain⟨a1,a2,a3⟩:=Fs.gd_all b (by omega)
 have:=Fs.len_size x.kids
 exact⟨⟨by unfold F9;omega,a1,by omega,h1,h2,a2⟩,c,h5,a3,by omega⟩
structure Wo where
 op:Nat
 a:Nat
 b:Nat
structure Em where
 ws:List Wo
 cs:List Int
 ns:List (List UInt8)
 ks:List Int
 dp:Nat
def Em.lay (s:Em)(op a b:Nat):Em:=⟨s.ws++[⟨op,a,b⟩],s.cs,s.ns,s.ks,s.dp⟩
def Em.push (s:Em)(op a b u:Nat):Em:=⟨s.ws++[⟨op,a,b⟩],s.cs,s.ns,s.ks,max s.dp (u+1)⟩
def Em.kc (s:Em)(n:Int):Em:=⟨s.ws,if n ∈ s.cs then s.cs else s.cs++[n],s.ns,s.ks,s.dp⟩
def Em.kn (s:Em)(x:List UInt8):Em:=⟨s.ws,s.cs,if x ∈ s.ns then s.ns else s.ns++[x],s.ks,s.dp⟩
def Em.con (s:Em)(n:Int)(kd u:Nat):Em:=(s.kc n).push 1 (s.cs.idxOf n) kd u
def Wo.to (x:Wo)(n:Nat):Wo:=if x.op=17 then ⟨x.op,x.a,n⟩ else ⟨x.op,n,x.b⟩
def Em.land (s:Em)(i:Nat):Em:=⟨s.ws.modify i (λx=>x.to s.ws.length),s.cs,s.ns,s.ks,s.dp⟩
def Em.cel (s:Em)(i:Nat)(k:Int):Em:=⟨s.ws,s.cs,s.ns,s.ks.set i k,s.dp⟩
def Em.fork (s:Em)(op:Nat)(f g:Em->Em):Em:=(g (((f (s.lay op 0 0)).lay 13 0 0).land s.ws.length)).land (f (s.lay op 0 0)).ws.length
def rT (n:Int):Int:=if n=1\/n=2 then 2 else if n=10 then 3 else 1
def rW (n:Int):Int:=if n=1\/n=2 then 2 else 1
def kdN (k n:Int)(ks:List Int):Int :=
 if k=1\/k=6\/(8<=k/\k<=12) then 1 else if k=3\/k=5 then 3 else if k=19 then ks.getD 1 0 else if k=26 then ks.getD 0 0 else if k=20 then rT n else if k=21 then rW n else 2
def kdF:Fs->List Int
 | ⟨FE⟩=>[]
 | ⟨FF ⟨k,n,_,_,ks,r⟩⟩=>kdN k n (kdF ks)::kdF r
def kdE (e:Ex):Int:=kdN e.k e.n (kdF e.kids)
abbrev Tr:=Nat->Nat->Em->Em
def m4:List Tr->Nat->Nat->Nat->Em->Em
 | [],_,_,_,s=>s
 | t::r,i,ar,u,s=>m4 r (i+1) ar u (t ar (u+i) s)
def jn (k:Int):Nat:=if k=6 then 4 else if k=7 then 5 else if k=8 then 6 else if k=9 then 7 else if k=10 then 8 else if k=11 then 9 else if k=12 then 10 else if k=22 then 20 else 22
def opr (k n:Int)(nm:List UInt8)(a:List Int)(s:Em):Em :=
 if k=13 then s.lay 11 0 (a.getD 0 0).toNat else if k=14 then (s.lay 11 0 (a.getD 0 0).toNat).lay 5 0 0 else if k=15 then s.lay 12 0 0 else if k=16 then s.lay 12 0 1
 else if k=20 then s.lay 16 n.toNat 0 else if k=23 then (s.kn nm).lay 21 (s.ns.idxOf nm) 0 else if k=25 then s.lay 23 a.length 0 else s.lay (jn k) 0 0
def ir (h:Nat):List Int->Nat->Em->Em
 | [],_,s=>s
 | l::r,i,s=>ir h r (i+1) (if l=(h:Int) then s.lay 19 i 0 else s)
def bdy (lv:List Int)(t:Tr):Tr:=λar u s=>t (ar+1) u (ir (ar+1) lv 0 s)
def xg (lv:List Int)(t:Tr)(op:Nat)(v:Int):Tr:=λar u s =>
 s.fork 24 (λx=>(((bdy lv t ar u x).lay op s.ws.length 0).lay 25 0 0).con v 2 u) (λx=>x.con (1-v) 2 u)
def pd (lv:List Int)(t:Tr)(f:Nat->Em->Em):Tr:=λar u s =>
 ((f s.ws.length (bdy lv t ar u (s.lay 24 0 0))).lay 13 s.ws.length 0).land s.ws.length
def qua (lv:List Int)(n:Int)(a t:Tr):Tr:=λar u s =>
 if n=1 then xg lv t 15 0 ar u (a ar u s) else if n=2 then xg lv t 14 1 ar u (a ar u s)
 else if n=3 then pd lv t (λg x=>((x.lay 14 g 0).con 1 1 (u+1)).lay 6 0 0) ar (u+1) ((a ar u s).con 0 1 u)
 else if n=4 then pd lv t (λ_ x=>x.lay 6 0 0) ar (u+1) ((a ar u s).con 0 1 u)
 else (pd lv t (λ_ x=>x.lay 26 (n-5).toNat 0) ar (u+2) (((a ar u s).con 0 1 u).con 0 2 (u+1))).lay 27 0 0
abbrev noT:Tr:=λ_ _ s=>s
def prt (lv:List Int)(k n:Int)(nm:List UInt8)(a:List Int)(T:List Tr):Tr:=λar u s =>
 if k=1 then s.con n 1 u else if k=2 then s.con n 2 u else if k=3 then (s.kc n).push 2 (s.cs.idxOf n) 0 u else if k=5 then s.push 3 n.toNat 0 u
 else if k=17 then (T.getD 0 noT ar u s).fork 14 (T.getD 1 noT ar u) (λx=>x.con 0 2 u)
 else if k=18 then (T.getD 0 noT ar u s).fork 15 (T.getD 1 noT ar u) (λx=>x.con 1 2 u)
 else if k=19 then (T.getD 0 noT ar u s).fork 14 (T.getD 1 noT ar u) (T.getD 2 noT ar u)
 else if k=26 then ((T.getD 0 noT ar u ((s.cel n.toNat (a.getD 0 0)).lay 17 n.toNat 0)).lay 18 n.toNat 0).land s.ws.length
 else if k=21 then qua lv n (T.getD 0 noT) (T.getD 1 noT) ar u s
 else opr k n nm a (m4 T 0 ar u s)
def emF (lv:List Int):Fs->List Tr
 | ⟨FE⟩=>[]
 | ⟨FF ⟨k,n,nm,_,ks,r⟩⟩=>prt lv k n nm (kdF ks) (emF lv ks)::emF lv r
def emE (lv:List Int)(e:Ex):Tr:=prt lv e.k e.n e.nm (kdF e.kids) (emF lv e.kids)
def em0 (lv:List Int):Em:=⟨[],[],[],Gt lv.length 1,0⟩
def emA (lv:List Int)(e:Ex):Em:=(emE lv e 0 0 (em0 lv)).lay 0 0 0
def Em.mes (s:Em):Nat:=s.ws.length+s.cs.length+s.ns.length
theorem Em.mes_lay (s:Em)(op a b:Nat):(s.lay op a b).mes=s.mes+1:=by simp[Em.mes,Em.lay];omega
theorem Em.mes_push (s:Em)(op a b u:Nat):(s.push op a b u).mes=s.mes+1:=by simp[Em.mes,Em.push];omega
theorem Em.mes_kc (s:Em)(n:Int):(s.kc n).mes<=s.mes+1:=by simp only[Em.mes,Em.kc];split<;>simp<;>omega
theorem Em.mes_kn (s:Em)(n:List UInt8):(s.kn n).mes<=s.mes+1:=by simp only[Em.mes,Em.kn];split<;>simp<;>omega
theorem Em.mes_con (s:Em)(n:Int)(kd u:Nat):(s.con n kd u).mes<=s.mes+2:=by
 unfold Em.con;rw[Em.mes_push]
 have:=s.mes_kc n
 omega
theorem Em.mes_land (s:Em)(i:Nat):(s.land i).mes=s.mes:=by simp[Em.mes,Em.land]
def okN (nc:Nat)(k n:Int)(nm:List UInt8)(len:Nat):Prop:=eg k n nm len=true/\(k=5->n<=3)/\(k=26->0<=n/\n<(nc:Int))/\(-9223372036854775808<=n/\n<=9223372036854775807)
def okF (nc:Nat):Fs->Prop
 | ⟨FE⟩=>True
 | ⟨FF ⟨k,n,nm,_,ks,r⟩⟩=>okN nc k n nm ks.len/\okF nc ks/\okF nc r
def okE (nc:Nat)(e:Ex):Prop:=okN nc e.k e.n e.nm e.kids.len/\okF nc e.kids
end Go.Proofs.YtkhgahljbpmfaaaGreatDoor
