import Derived.Test.YtkhgahljbpmfaaaGreatDoorRdqO
import Derived.Defers
import Derived.Recover
import Derived.Laws.Pointers
set_option maxRecDepth 100000
set_option maxHeartbeats 8000000
namespace Go.Proofs.YtkhgahljbpmfaaaGreatDoor
open Option renaming none->G0,some->G1
open Nat renaming le_refl->G4,lt_of_lt_of_le->Hh,le_trans->In,zero_add->Ix,le_of_lt->IM,sub_self->Kk
open Go.Proofs.Tryz renaming prog->G5,results105->I7,results204->JZ
open Go renaming World->G9,lt_of_block->Ha,bodyPost_ret->Hb,heap_alloc_new->Hc,Value->He,results->Hk,heap_setCell_other->Hl,Calls->Hn,maxLen->Hu,Addr->Hw,cell_of_row->If,TypeId->Il,frozen_of_row->IK,Ending->Ja
open List renaming getElem?_eq_getElem->Hd,length_append->Hx,length_cons->Hy,getElem?_eq_none->Ie,mem_of_find?_eq_some->Ii,getElem?_map->ID,not_mem_nil->IP,mem_cons->IR,mem_of_getElem?->IT,getElem_mem->IU,length_nil->I8,cons_append->Jh,find?_some->Jm,take_append_drop->J2,take_length->Ke,take_of_length_le->KG
open Go.RowKit renaming Below->Hf,intOf->Ih,wrap64->Io
open Go.Lib renaming hid->Hg,parseUint10->JF,atoiAll->J9
open Go.RowKit.Below renaming refl->Hi,heap_alloc->Hj
open Bool renaming and_eq_true->Ia,not_eq_true->Jc,or_eq_true->Jn
open Go.World renaming setCell->Ht,alloc->IB
open Exists renaming intro->Hv
open Go.IntKind renaming wrap_i64->II
open Go.Act renaming eval->Ks
open UInt8 renaming toNat_lt->IZ
open Go.ByteArray renaming toList_eq->Jl
open Or renaming inl->Jp
open Go.AllReadyH renaming cons->Js
open UInt8.toNat renaming inj->Jv
open List.cons renaming injEq->Ko
open Go.ChangeShapes Go.WideShapes Go.ChangeAt Go.RowKit
set_option linter.unusedVariables false
set_option linter.unusedSimpArgs false
theorem qX {β:Type}{F:List Tk->Rs β}{st0:Sq}{ea:Nat × Nat}{G H:List Tk->Rs β}(h:Ctx F st0 G (.inl ea)):Ctx F st0 H (.inl ea):=h.congr λts hs=>by cases hs
def hdG (rec:Rdr)(g o q:Nat)(K:Fs->List Tk->Rs Ex)(acc:Fs):Bool->List Tk->Rs Ex
 | true=>λt=>K acc t
 | false=>λt=>(rec 1 o q t).bind λe t1=>(jW rec g o q (acc.snoc e) t1).bind K
theorem Bk (e:Ex):Fs.snoc .nil e=one e:=by simp only[Fs.snoc,Fs.app]
theorem xu {rec:Rdr}{m o q:Nat}{K:Fs->List Tk->Rs Ex}{F:List Tk->Rs Ex}{st0 st:Sq}(h:Ctx F st0 (λt=>(mQ rec m o q t).bind K) st)(hne:∀ ts,st=.inr ts->ts≠[]):Ctx F st0 (hdG rec m o q K .nil (isS [125] st)) st:=by
 match st,h,hne with
 | .inl ea,h,_=>exact qX h
 | .inr [],h,hne=>exact absurd rfl (hne [] rfl)
 | .inr (x::r),h,_ =>
  by_cases hx:x.t=[125]
  ·rw[show isS [125] (.inr (x::r))=true by simp[isS,hx]];refine h.congr λts hs=>?_;cases hs;simp only[mQ,hx,if_true,hdG];rfl
  ·rw[show isS [125] (.inr (x::r))=false by simp[isS,hx]];refine h.congr λts hs=>?_;cases hs;simp only[mQ,hx,if_false,hdG,Rs.bind_assoc,Bk]
theorem DP {rec:Rdr}{g o q:Nat}{K:Fs->List Tk->Rs Ex}{F:List Tk->Rs Ex}{st0 st:Sq}{acc:Fs}(h:Ctx F st0 (λt=>(jW rec g o q acc t).bind K) st)(hs:isS [125] st=true):Ctx F st0 (hdG rec 0 o q K acc true) st:=by
 obtain⟨x,r,rfl,hx⟩:=oW hs;cases g with
 | zero=>exact absurd rfl (h.1 _ rfl)
 | succ g =>
  refine h.congr λts hs=>?_;cases hs;simp only[jW,hdG];rw[if_neg (by rw[hx];decide)];rfl
theorem xL {rec:Rdr}{g o q:Nat}{K:Fs->List Tk->Rs Ex}{F:List Tk->Rs Ex}{st0 st:Sq}{acc:Fs}(h:Ctx F st0 (λt=>(jW rec g o q acc t).bind K) st)(hK:∀ (x:Tk) r,x.t≠[125]->K acc (x::r)=.bad 120 x.a)(hs:isS [125] st=false)(hne:∀ ts,st=.inr ts->ts≠[]) :
  ∃g',Ctx F st0 (hdG rec g' o q K acc false) (onw (eI [44]) st)/\(g=g'+1\/∃ea,onw (eI [44]) st=.inl ea):=by
 match st,h,hs,hne with
 | .inl ea,h,_,_=>exact⟨0,qX h,.inr ⟨ea,rfl⟩⟩
 | .inr [],h,_,hne=>exact absurd rfl (hne [] rfl)
 | .inr (x::r),h,hs,_ =>
  have hx:¬x.t=[125]:=by simpa [isS] using hs
  cases g with
  | zero=>exact absurd rfl (h.1 _ rfl)
  | succ g =>
   by_cases hc:x.t=[44]
   ·have e1:onw (eI [44]) (.inr (x::r))=.inr r:=by simp[onw,eI,hc,stp]
    rw[e1];refine⟨g,h.eat ?_,.inl rfl⟩;simp only[jW,hc,if_true,hdG,Rs.bind_assoc]
   ·have e1:onw (eI [44]) (.inr (x::r))=.inl (120,x.a):=by simp[onw,eI,hc,stp]
    rw[e1];have e2:(jW rec (g+1) o q acc (x::r)).bind K=.bad 120 x.a:=by
     simp only[jW,hc,if_false];exact hK x r hx
    refine⟨g,⟨λts hs=>(by cases hs),λX st' q=>h.2 X st' ?_⟩,.inl rfl⟩;rw[q.1];exact⟨by simp only[onw];rw[e2];rfl,λts y t hs hy=>by cases hs;have hy:(jW rec (g+1) o _ acc (x::r)).bind K=_:=hy;rw[e2] at hy;cases hy⟩
theorem dX.lab {rb:Nat}{w w':G9}{o:Nat->Nat}(k:dX rb w w')(h7:o rb=7):as (λx=>x=7) w o w' (dQ w o 0):=⟨k.os,k.tape,k.output,k.size,λj hj=>ed hj,λj hj hn=>k.block j hj λe=>hn (by rw[e,h7])⟩
structure Lb7 (rb n0:Nat)(o:Nat->Nat):Prop where
 r:o rb=7
 z:o n0=3
 b:o (n0+1)=1
 low:∀ k,k<n0->k≠rb->o k=0
theorem Dr {rb n0:Nat}(h:rb<n0):Lb7 rb n0 (λk=>if k=rb then 7 else if k=n0+1 then 1 else if k=n0 then 3 else 0):=by
 refine⟨by simp,?_,?_,λk hk hn=>?_⟩
 ·show (if n0=rb then 7 else if n0=n0+1 then 1 else if n0=n0 then 3 else 0)=3;rw[if_neg (by omega),if_neg (by omega),if_pos rfl]
 ·show (if n0+1=rb then 7 else if n0+1=n0+1 then 1 else if n0+1=n0 then 3 else 0)=1;rw[if_neg (by omega),if_pos rfl]
 ·show (if k=rb then 7 else if k=n0+1 then 1 else if k=n0 then 3 else 0)=0;rw[if_neg hn,if_neg (by omega),if_neg (by omega)]
theorem Lb7.n2 {rb n0:Nat}{o:Nat->Nat}(l:Lb7 rb n0 o):∀ k,k<n0->o k≠2:=λk hk=>by
 by_cases e:k=rb
 ·rw[e,l.r];decide
 ·rw[l.low k hk e];decide
theorem m4.sl2 {w:G9}{o:Nat->Nat}{n0:Nat}{acc:Fs}{v:He}(h:m4 w o n0 acc v)(ho:∀ k,k<n0->o k≠2):∃ao cap,v=.slice ao acc.len cap/\Sl w (λb=>n0<=b/\(o b=0\/o b=2)) acc ao:=by
 obtain⟨xs,r,f⟩:=h;by_cases h0:0<acc.len
 ·obtain⟨g,cap,rfl,hg,_,_,hlt,hc,_⟩:=r.pos h0;have hl:=r.len;refine⟨_,cap,rfl,.inr ⟨g,0,xs,rfl,⟨?_,.inr hg⟩,hlt,λj u hu=>?_,f.mono (λ_ _ _=>rfl) (G4 _) (λ_ hp _=>⟨hp.1,.inl hp.2⟩)⟩⟩
  ·by_cases hn:n0<=g
   ·exact hn
   ·exact absurd hg (ho g (by omega))
  ·rw[Ix,hc j ?_]
   ·exact hu
   ·rw[<-hl];by_cases hj:j<xs.length
    ·exact hj
    ·rw[Ie (by omega)] at hu;cases hu
 ·obtain⟨ao,cap,rfl⟩:=r.form;refine⟨ao,cap,rfl,.inl ?_⟩;cases acc using Fs.on with
  | nil=>rfl
  | Js k n nm a ks r=>simp[Fs.len] at h0
theorem Lb7.step {rb n0:Nat}{I:Nat->Prop}{w w':G9}{o o':Nat->Nat}(h:Lb7 rb n0 o)(s:as I w o w' o')(hr:rb<n0)(hn:n0+1<w.heap.size):Lb7 rb n0 o' :=
 ⟨(s.lab _ (by omega)).trans h.r,(s.lab _ (by omega)).trans h.z,(s.lab _ hn).trans h.b,λk hk hn2=>(s.lab _ (by omega)).trans (h.low k hk hn2)⟩
theorem QS.lab {I:Nat->Prop}{w w':G9}{o' o2:Nat->Nat}{rb n0 o q:Nat}{all:List Tk}{st:Sq}(h:QS w rb all o q st)(s:as I w o' w' o2)(l:Lb7 rb n0 o')(hr:rb<n0)(h7:¬I 7)(h0:¬I 0):QS w' rb all o q st:=h.same λk hk=>s.block k (by have:=h.lt;omega) (by
 by_cases e:k=rb
 ·rw[e,l.r];exact h7
 ·rw[l.low k (by omega) e];exact h0)
theorem dX.lab0 {I:Nat->Prop}{rb n0:Nat}{a w w':G9}{o o':Nat->Nat}(K:dX rb a w)(s:as I w o w' o')(l:Lb7 rb n0 o)(hn:a.heap.size=n0)(h0:¬I 0):dX rb a w' :=
 ⟨s.os.trans K.os,s.tape.trans K.tape,s.output.trans K.output,In K.size s.size,λk hk hn2=>(s.block k (Hh hk K.size) (by rw[l.low k (by omega) hn2];exact h0)).trans (K.block k hk hn2)⟩
theorem xr {w wr w4 w5:G9}{rb n0 o q g5 c5 cap4:Nat}{A:Int}{all:List Tk}{st4:Sq}{oR o5:Nat->Nat}{va:He}{acc:Fs}{xs:List He}{X:Ex}{ao4:Option Hw}
  (hn0:n0=w.heap.size) (hrn:rb<n0) (K3:dX rb w wr) (Z3:wr.heap[n0]?=G1 exZ) (O3:wr.heap[n0+1]?=G1 (.cells #[.int .i64 25,.int .i64 0,.string ⟨#[]⟩,va,.int .i64 A] 25 (0,0))) (L3:Lb7 rb n0 oR) (fc:Fc wr (N0 n0 oR) acc xs)
  (k4:dX rb wr.drew w4) (S4:Sl w4 (Nw wr.drew.heap.size) X.kids ao4) (h4:QS w4 rb all o q st4)
  (s5:as (λx=>x=2) (w4.alloc (.cells #[.int .i64 X.k,.int .i64 X.n,stv X.nm,.slice ao4 X.kids.len cap4,.int .i64 X.a] 25)) (dQ wr.drew oR 0) w5 o5)
  (r5:Row w5 o5 2 25 5 (.slice (G1 ⟨g5,0,G0⟩) (acc.len+1) c5) (acc.len+1) (xs++[.int .i64 X.k,.int .i64 X.n,stv X.nm,.slice ao4 X.kids.len cap4,.int .i64 X.a])) :
  w5.heap[n0+1]?=G1 (.cells #[.int .i64 25,.int .i64 0,.string ⟨#[]⟩,va,.int .i64 A] 25 (0,0))/\QS (w5.setCell ⟨n0+1,3,G0⟩ (.slice (G1 ⟨g5,0,G0⟩) (acc.len+1) c5)) rb all o q st4/\dX rb w (w5.setCell ⟨n0+1,3,G0⟩ (.slice (G1 ⟨g5,0,G0⟩) (acc.len+1) c5))/\(w5.setCell ⟨n0+1,3,G0⟩ (.slice (G1 ⟨g5,0,G0⟩) (acc.len+1) c5)).heap[n0]?=G1 exZ/\(w5.setCell ⟨n0+1,3,G0⟩ (.slice (G1 ⟨g5,0,G0⟩) (acc.len+1) c5)).heap[n0+1]?=G1 (.cells #[.int .i64 25,.int .i64 0,.string ⟨#[]⟩,.slice (G1 ⟨g5,0,G0⟩) (acc.len+1) c5,.int .i64 A] 25 (0,0))/\m4 (w5.setCell ⟨n0+1,3,G0⟩ (.slice (G1 ⟨g5,0,G0⟩) (acc.len+1) c5)) o5 n0 (acc.snoc X) (.slice (G1 ⟨g5,0,G0⟩) (acc.len+1) c5)/\Lb7 rb n0 o5:=by
 have hd:n0+1<wr.heap.size:=Ha O3;have s4:as (λx=>x=7) wr oR w4 (dQ wr.drew oR 0):=(as.refl _ wr oR).drew.trans (k4.lab L3.r);have sA:=gV (λ_=>False) w4 (dQ wr.drew oR 0) (.cells #[.int .i64 X.k,.int .i64 X.n,stv X.nm,.slice ao4 X.kids.len cap4,.int .i64 X.a] 25);have O5:Blk w5 o5 1 (n0+1) _:=((Blk.step (⟨O3,L3.b⟩:Blk wr oR 1 (n0+1) _) s4 (by decide)).step sA id).step s5 (by decide);have Z5:Blk w5 o5 3 n0 _:=((Blk.step (⟨Z3,L3.z⟩:Blk wr oR 3 n0 _) s4 (by decide)).step sA id).step s5 (by decide);have L4:=L3.step s4 hrn hd;have hd4:n0+1<w4.heap.size:=Hh hd s4.size;have LA:=L4.step sA hrn hd4;have hdA:n0+1<(w4.alloc (.cells #[.int .i64 X.k,.int .i64 X.n,stv X.nm,.slice ao4 X.kids.len cap4,.int .i64 X.a] 25)).heap.size:=Hh hd4 sA.size;have L5:=LA.step s5 hrn hdA;have hd5:n0+1<w5.heap.size:=Hh hdA s5.size;have s6:=fo (λx=>x=1) w5 o5 ⟨n0+1,3,G0⟩ (.slice (G1 ⟨g5,0,G0⟩) (acc.len+1) c5) O5.2;have hS:Sl w4 (N0 n0 (dQ wr.drew oR 0)) X.kids ao4:=S4.mono (λ_ _ _=>rfl) (G4 _) (λi hp hl=>⟨by have hp:wr.heap.size<=i:=hp;omega,dY hp⟩);have A5:m4 w5 o5 n0 (acc.snoc X) _:=m4.push ((fc.lab s4 (by decide)).lab sA id) (hS.lab sA id) s5 r5;have hq:=((h4.alloc (.cells #[.int .i64 X.k,.int .i64 X.n,stv X.nm,.slice ao4 X.kids.len cap4,.int .i64 X.a] 25)).lab s5 LA hrn (by decide) (by decide)).lab s6 L5 hrn (by decide) (by decide);have k1:dX rb w w4:=K3.trans ((dX.refl rb wr).drew.trans k4);have kk:=((k1.alloc (.cells #[.int .i64 X.k,.int .i64 X.n,stv X.nm,.slice ao4 X.kids.len cap4,.int .i64 X.a] 25)).lab0 s5 LA hn0.symm (by decide)).lab0 s6 L5 hn0.symm (by decide);exact⟨O5.1,hq,kk,(Z5.step s6 (by decide)).1,(O5.set 3 _).1,A5.step s6 (by decide) (by decide),L5.step s6 hrn hd5⟩
def sP (rec:Rdr)(m o q:Nat)(ts:List Tk):Rs Ex:=(el [123] o ts).bind λa t1=>(mQ rec m (o+1) q t1).bind λks t2=>(eI [125] t2).bind λ_ t3=>.ok ⟨25,0,[],a,ks⟩ t3
theorem Ag (a:Int)(acc:Fs)(x:Tk)(r:List Tk)(h:x.t≠[125]):((eI [125] (x::r)).bind λ_ t3=>(.ok ⟨25,0,[],a,acc⟩ t3:Rs Ex))=.bad 120 x.a:=by simp[eI,h,Rs.bind]
theorem QS.nn {w:G9}{rb o q:Nat}{all:List Tk}{st:Sq}(h:QS w rb all o q st):∀ ts,st=.inr ts->ts≠[]:=λts e=>by subst e;exact h.le.2.2.ne
theorem EU {rec:Rdr}(R:mK rec){w:G9}{rb o q m:Nat}{all:List Tk}{x:Tk}{r:List Tk}(hm:m<=1000000)(TI:∀ x,x ∈ all->iJ x)(h:QS w rb all o q (.inr (x::r)))(hn:Nou (sP rec m o q) (.inr (x::r))) :
  Hn G5 237 #[.pointer (G1 ⟨rb,0,G0⟩),.int .i64 (x.a:Nat)] w (gq rb all o q w (.inr (x::r)) (sP rec m o q)):=by
 have hrb:=h.lt;have CA:=Ctx.start hn;obtain⟨F,hF⟩:∃F,F=sP rec m o q:=⟨_,rfl⟩;have C0:Ctx F (.inr (x::r)) (λts=>(el [123] o ts).bind λa t1=>(mQ rec m (o+1) q t1).bind λks t2=>(eI [125] t2).bind λ_ t3=>.ok ⟨25,0,[],a,ks⟩ t3) (.inr (x::r)):=by rw[hF];exact CA
 rw[<-hF];clear hF hn CA;obtain⟨K,hK⟩:∃K:Fs->List Tk->Rs Ex,K=λks t2=>(eI [125] t2).bind λ_ t3=>.ok ⟨25,0,[],(x.a:Nat),ks⟩ t3:=⟨_,rfl⟩;have CB:=C0.step (mw (o:=o) (x:=x) (r:=r) [123]);have C1:Ctx F (.inr (x::r)) (λt=>(mQ rec m (o+1) q t).bind K) (onw (el [123] o) (.inr (x::r))):=by rw[hK];exact CB
 have HK:Hid (K=λks t2=>(eI [125] t2).bind λ_ t3=>.ok ⟨25,0,[],(x.a:Nat),ks⟩ t3):=hK;obtain⟨ii,hii,hzi0,hzi1,hzi2⟩:=eo pB;obtain⟨w0,hw0⟩:∃w0,w0=(w.alloc exZ).alloc (.cells #[.int .i64 25,.int .i64 0,.string ⟨#[]⟩,.slice G0 0 0,.int .i64 (x.a:Nat)] 25):=⟨_,rfl⟩;have K0:dX rb w w0:=by rw[hw0];exact((dX.refl rb w).alloc _).alloc _
 have h0:QS w0 rb all o q (.inr (x::r)):=by rw[hw0];exact(h.alloc exZ).alloc _
 obtain⟨n0,hn0⟩:∃n0,n0=w.heap.size:=⟨_,rfl⟩;have Z0:w0.heap[n0]?=G1 exZ:=by
  rw[hw0,hn0];exact(Hj _ _ _ (by simp)).trans (Hc w _)
 have O0:w0.heap[n0+1]?=G1 (.cells #[.int .i64 25,.int .i64 0,.string ⟨#[]⟩,.slice G0 0 0,.int .i64 (x.a:Nat)] 25 (0,0)):=by
  rw[hw0,hn0]
  have:=Hc (w.alloc exZ) (.cells #[.int .i64 25,.int .i64 0,.string ⟨#[]⟩,.slice G0 0 0,.int .i64 (x.a:Nat)] 25)
  simpa using this
 have c1:=qH TI [123] (by decide) (by decide) h0;generalize onw (el [123] o) (.inr (x::r))=st1 at *;have hrn:rb<n0:=by omega
 go_enter Tryz.func237,Tryz.ntmps237;go_upto_region 2 with fail;rw[<-hw0,<-hn0];have HN:Hid (n0=w.heap.size):=hn0;clear hw0 h h0 C0 CB hK hn0;go_wp2_with fail;refine c1.mono ?_;rintro e w1 ⟨rfl,h1,k1⟩;clear c1;have Z1:=k1.blk Z0 (by omega);have O1:=k1.blk O0 (by omega);have K1:=K0.trans k1;have c2:=vr TI [125] (by decide) (by decide) h1;clear Z0 O0 K0 k1;go_wp2_with fail;refine c2.mono ?_;rintro e w2 ⟨rfl,b2⟩;clear c2;have k2:=dX.ofBelow (rb:=rb) b2;have h2:=h1.below b2;have Z2:=k2.blk Z1 (by omega);have O2:=k2.blk O1 (by omega);have K2:=K1.trans k2;have C2:=xu C1 h2.nn;clear Z1 O1 K1 k2 b2 C1 h1;obtain⟨oL,L2⟩:∃oL:Nat->Nat,Lb7 rb n0 oL:=⟨_,Dr hrn⟩;have A2:m4 w2 oL n0 .nil (.slice G0 0 0):=⟨[],Row.nil _ _ _ _ _,rfl⟩;go_wp2_with fail;go_loopg [6] (m+1) (λg v wr=>∃(en:Bool) (st:Sq) (acc:Fs) (oR:Nat->Nat) (va:He) (g':Nat),v=.bool en/\Hid (en=true\/(∃ea,st=.inl ea)\/g=g'+1)/\Hid (acc.len+g<=m+1)/\Ctx F (.inr (x::r)) (hdG rec g' (o+1) q K acc en) st/\QS wr rb all (o+1) q st/\dX rb w wr/\wr.heap[n0]?=G1 (.cells #[.int .i64 0,.int .i64 0,.string ⟨#[]⟩,.slice G0 0 0,.int .i64 0] 25 (0,0))/\wr.heap[n0+1]?=G1 (.cells #[.int .i64 25,.int .i64 0,.string ⟨#[]⟩,va,.int .i64 (x.a:Nat)] 25 (0,0))/\m4 wr oR n0 acc va/\Hid (Lb7 rb n0 oR))
 case atStart=>exact⟨_,st1,.nil,oL,.slice G0 0 0,m,rfl,.inr (.inr rfl),by show 0+(m+1)<=m+1;omega,C2,h2,K2,Z2,O2,A2,L2⟩
 case round =>
  clear C2 h2 K2 Z2 O2 A2 L2;obtain⟨en,st,acc,oR,va,g',rfl,HG,HL,C,h3,K3,Z3,O3,A3,L3⟩:=hrel;have key:(Hid (Ctx F (.inr (x::r)) (λt=>K acc t) st)/\(en=true\/en=false/\∃er a,st=.inl (er,a)))\/(en=false/\gk=g'+1/\∃y s,st=.inr (y::s)):=by
   cases en with
   | true=>exact .inl ⟨C,.inl rfl⟩
   | false =>
    match st,C,h3,HG with
    | .inl (er,a),C,h3,HG=>exact .inl ⟨qX C,.inr ⟨rfl,er,a,rfl⟩⟩
    | .inr [],C,h3,HG=>exact absurd rfl (h3.nn [] rfl)
    | .inr (y::s),C,h3,HG =>
     refine .inr ⟨rfl,?_,y,s,rfl⟩;rcases HG.out with h|⟨ea,h⟩|h
     ·cases h
     ·cases h
     ·exact h
  clear HG;rcases key with ⟨HC,hen⟩|⟨rfl,rfl,y,s,rfl⟩
  ·have C4:Ctx F (.inr (x::r)) (λt=>(eI [125] t).bind λ_ t3=>.ok ⟨25,0,[],(x.a:Nat),acc⟩ t3) st:=by have h9:=HC.out;rw[HK.out] at h9;exact h9
   clear C HC;rcases hen with rfl|⟨rfl,er,a,rfl⟩
   ·have c4:=lj TI [125] ⟨by decide,by decide⟩ h3;clear h3;go_wp2_with fail;refine c4.mono ?_;rintro e w4 ⟨x4,st4,rfl,h4,k4,Q4⟩;have FIN:=(C4.step Q4).fin;have s4:=k4.lab L3.out.r;have A4:=A3.step s4 (by decide) (by decide);have L4:=L3.out.step s4 hrn (Ha O3);have Z4:=k4.blk Z3 (by omega);have O4:=k4.blk O3 (by omega);have K4:=K3.trans k4;obtain⟨a1,c1,rfl,SL⟩:=A4.sl2 L4.n2;have KE:=K4.set5 (b:=n0) (by have:=HN.out;omega) (.int .i64 25) (.int .i64 0) (stv []) (.slice a1 acc.len c1) (.int .i64 (x.a:Nat));have RE:=h4.set5 (b:=n0) (by omega) (.int .i64 25) (.int .i64 0) (stv []) (.slice a1 acc.len c1) (.int .i64 (x.a:Nat));have ZE:=eX (.int .i64 25) (.int .i64 0) (stv []) (.slice a1 acc.len c1) (.int .i64 (x.a:Nat)) Z4;have SE:=SL.mono (w':=(((((w4.setCell ⟨n0,0,G0⟩ (.int .i64 25)).setCell ⟨n0,1,G0⟩ (.int .i64 0)).setCell ⟨n0,2,G0⟩ (stv [])).setCell ⟨n0,3,G0⟩ (.slice a1 acc.len c1)).setCell ⟨n0,4,G0⟩ (.int .i64 (x.a:Nat)))) (Q:=Nw n0) (λi hp hl=>ir w4 n0 i (.int .i64 25) (.int .i64 0) (stv []) (.slice a1 acc.len c1) (.int .i64 (x.a:Nat)) (λee=>by have h2:=L4.z;rw[<-ee] at h2;rcases hp.2 with h|h<;>omega)) (by simp) (λi hp _=>hp.1);have HU:Hid (∃wz,wz=(((((w4.setCell ⟨n0,0,G0⟩ (.int .i64 25)).setCell ⟨n0,1,G0⟩ (.int .i64 0)).setCell ⟨n0,2,G0⟩ (stv [])).setCell ⟨n0,3,G0⟩ (.slice a1 acc.len c1)).setCell ⟨n0,4,G0⟩ (.int .i64 (x.a:Nat)))/\wz.cell? ⟨n0,0,G0⟩=G1 (.int .i64 25)/\wz.cell? ⟨n0,1,G0⟩=G1 (.int .i64 0)/\wz.cell? ⟨n0,2,G0⟩=G1 (stv [])/\wz.cell? ⟨n0,3,G0⟩=G1 (.slice a1 acc.len c1)/\wz.cell? ⟨n0,4,G0⟩=G1 (.int .i64 (x.a:Nat))/\Sl wz (Nw n0) acc a1/\dX rb w wz/\QS wz rb all o q st4):=by
     obtain⟨u0,u1,u2,u3,u4,-⟩:=dS ZE;exact⟨_,rfl,u0,u1,u2,u3,u4,SE,KE,RE⟩
    obtain⟨u0,u1,u2,u3,u4,uf⟩:=dS O4;obtain⟨z0,z1,z2,z3,z4,zf⟩:=dS Z4;have HF:=Hg FIN;clear KE RE ZE SE c4 C4 Q4 FIN s4 A4 L4 Z4 O4 K4 SL k4 h4 A3 Z3 O3 K3;go_wp2;obtain⟨wz,hwz,v0,v1,v2,v3,v4,SZ,KZ,RZ⟩:=HU.out;clear HU;rw[<-hwz];clear hwz;exact Hb (v:=exV ⟨25,0,[],(x.a:Nat),acc⟩ a1 c1) (by simp[Hk,Tryz.results237,go_sem,v0,v1,v2,v3,v4,exV]) rfl ⟨_,_,_,_,rfl,by rw[<-HN.out];exact SZ,RZ,KZ,HF.out⟩
   ·obtain⟨hb,d4,-⟩:=h3.bad;have c4:=lj TI [125] ⟨by decide,by decide⟩ h3;clear h3;go_wp2_with fail;refine c4.mono ?_;rintro e w4 ⟨x4,st4,rfl,h4,k4,Q4⟩;have FIN:=(C4.step Q4).fin;have s4:=k4.lab L3.out.r;have A4:=A3.step s4 (by decide) (by decide);have L4:=L3.out.step s4 hrn (Ha O3);clear d4 hb;have Z4:=k4.blk Z3 (by omega);have O4:=k4.blk O3 (by omega);have K4:=K3.trans k4;obtain⟨a1,c1,rfl,SL⟩:=A4.sl2 L4.n2;have KE:=K4.set5 (b:=n0) (by have:=HN.out;omega) (.int .i64 25) (.int .i64 0) (stv []) (.slice a1 acc.len c1) (.int .i64 (x.a:Nat));have RE:=h4.set5 (b:=n0) (by omega) (.int .i64 25) (.int .i64 0) (stv []) (.slice a1 acc.len c1) (.int .i64 (x.a:Nat));have ZE:=eX (.int .i64 25) (.int .i64 0) (stv []) (.slice a1 acc.len c1) (.int .i64 (x.a:Nat)) Z4;have SE:=SL.mono (w':=(((((w4.setCell ⟨n0,0,G0⟩ (.int .i64 25)).setCell ⟨n0,1,G0⟩ (.int .i64 0)).setCell ⟨n0,2,G0⟩ (stv [])).setCell ⟨n0,3,G0⟩ (.slice a1 acc.len c1)).setCell ⟨n0,4,G0⟩ (.int .i64 (x.a:Nat)))) (Q:=Nw n0) (λi hp hl=>ir w4 n0 i (.int .i64 25) (.int .i64 0) (stv []) (.slice a1 acc.len c1) (.int .i64 (x.a:Nat)) (λee=>by have h2:=L4.z;rw[<-ee] at h2;rcases hp.2 with h|h<;>omega)) (by simp) (λi hp _=>hp.1);have HU:Hid (∃wz,wz=(((((w4.setCell ⟨n0,0,G0⟩ (.int .i64 25)).setCell ⟨n0,1,G0⟩ (.int .i64 0)).setCell ⟨n0,2,G0⟩ (stv [])).setCell ⟨n0,3,G0⟩ (.slice a1 acc.len c1)).setCell ⟨n0,4,G0⟩ (.int .i64 (x.a:Nat)))/\wz.cell? ⟨n0,0,G0⟩=G1 (.int .i64 25)/\wz.cell? ⟨n0,1,G0⟩=G1 (.int .i64 0)/\wz.cell? ⟨n0,2,G0⟩=G1 (stv [])/\wz.cell? ⟨n0,3,G0⟩=G1 (.slice a1 acc.len c1)/\wz.cell? ⟨n0,4,G0⟩=G1 (.int .i64 (x.a:Nat))/\Sl wz (Nw n0) acc a1/\dX rb w wz/\QS wz rb all o q st4):=by
     obtain⟨u0,u1,u2,u3,u4,-⟩:=dS ZE;exact⟨_,rfl,u0,u1,u2,u3,u4,SE,KE,RE⟩
    obtain⟨u0,u1,u2,u3,u4,uf⟩:=dS O4;obtain⟨z0,z1,z2,z3,z4,zf⟩:=dS Z4;have HF:=Hg FIN;clear KE RE ZE SE c4 C4 Q4 FIN s4 A4 L4 Z4 O4 K4 SL k4 h4 A3 Z3 O3 K3;go_wp2;obtain⟨wz,hwz,v0,v1,v2,v3,v4,SZ,KZ,RZ⟩:=HU.out;clear HU;rw[<-hwz];clear hwz;exact Hb (v:=exV ⟨25,0,[],(x.a:Nat),acc⟩ a1 c1) (by simp[Hk,Tryz.results237,go_sem,v0,v1,v2,v3,v4,exV]) rfl ⟨_,_,_,_,rfl,by rw[<-HN.out];exact SZ,RZ,KZ,HF.out⟩
  ·have e0:=h3.e0;have C4:Ctx F (.inr (x::r)) (λt=>(rec 1 (o+1) q t).bind λe t1=>(jW rec g' (o+1) q (acc.snoc e) t1).bind K) (.inr (y::s)):=C;clear C;have hlen:acc.len<=1000000:=by have:=HL.out;omega
   obtain⟨xs,rw3,fc3⟩:=A3;have hd:QS wr.drew rb all (o+1) q (.inr (y::s)):=h3.below (Hi _ _).drew;have c5:=R wr.drew rb all 1 (o+1) q _ TI (by omega) (by omega) hd C4.nou;have b1:acc.len+1<=Hu:=by unfold Hu;omega
   have b2:(acc.len+1)*64<=140737488355328:=by omega
   have HCN:Hid (∀ X st5,Qd (rec 1 (o+1) q) (.inr (y::s)) X st5->Ctx F (.inr (x::r)) (λt1=>(jW rec g' (o+1) q (acc.snoc X) t1).bind K) st5):=λX st5 Q=>C4.step Q;go_upto_region 5 with fail;go_cut [28] (λv wx=>∃(X:Ex) (st5:Sq) (o5:Nat->Nat) (v5:He),Ctx F (.inr (x::r)) (λt1=>(jW rec g' (o+1) q (acc.snoc X) t1).bind K) st5/\QS wx rb all (o+1) q st5/\dX rb w wx/\wx.heap[n0]?=G1 (.cells #[.int .i64 0,.int .i64 0,.string ⟨#[]⟩,.slice G0 0 0,.int .i64 0] 25 (0,0))/\wx.heap[n0+1]?=G1 (.cells #[.int .i64 25,.int .i64 0,.string ⟨#[]⟩,v5,.int .i64 (x.a:Nat)] 25 (0,0))/\m4 wx o5 n0 (acc.snoc X) v5/\Lb7 rb n0 o5)
   case first =>
    obtain⟨p0,p1,p2,p3,p4,pf⟩:=dS O3;have hp0:n0+1<wr.heap.size:=Ha O3;go_region_law (first|(go_simp;go_at_call 28;refine c5.mono ?_;rintro e w5 ⟨x5,ao5,cap5,st5,rfl,S5,h5,k5,Q5⟩;have O5:=k5.blk (show wr.drew.heap[n0+1]?=_ from O3) (by omega);have hp5:n0+1<w5.heap.size:=Ha O5;obtain⟨e0,e1,e2,e3,e4,ef⟩:=dS O5;rw[dU])|(refine fZ rfl (.tmp 23) (.tmp 26) 23 rfl 25 ii _ 5 64 Tryz.underlying23 hii hzi0 hzi1 hzi2 rfl (by decide) (dQ wr.drew oR 0) 2 va acc.len xs (by simp[Ks]) ((rw3.step ((as.refl (λx=>x=7) wr oR).drew.trans (k5.lab L3.out.r)) (by decide)).step (gV (λ_=>False) w5 _ _) id) ⟨w5.heap.size,0,G0⟩ 1 1 [.int .i64 x5.k,.int .i64 x5.n,stv x5.nm,.slice ao5 x5.kids.len cap5,.int .i64 x5.a] (by simp[Ks]) rfl (gj w5 _ _) (by intro u hu;simp at hu;rcases hu with rfl|rfl|rfl|rfl|rfl<;>rfl) (by decide) b1 b2 ?_;intro g6 c6 w6 o6 r6 s6;have FX:=xr HN.out hrn K3 Z3 O3 L3.out fc3 k5 S5 h5 s6 r6;obtain⟨f0,f1,f2,f3,f4,ff⟩:=dS FX.1))
    all_goals
     go_wp2;go_meet;exact⟨x5,st5,o6,_,HCN.out _ _ Q5,FX.2.1,FX.2.2.1,FX.2.2.2.1,FX.2.2.2.2.1,FX.2.2.2.2.2.1,FX.2.2.2.2.2.2⟩
   case rest =>
   obtain⟨X,st5,o5,v5,C5,h5,K5,Z5,O5,A5,L5⟩:=hcut;clear e0 C4 rw3 fc3 hd c5 b1 b2 HCN h3 K3 Z3 O3 L3 xs;have HA:Hid ((acc.snoc X).len+g'<=m+1):=by show _<=_;rw[Fs.len_snoc];have:=HL.out;omega
   have c6:=vr TI [125] (by decide) (by decide) h5;go_wp2_with fail;refine c6.mono ?_;rintro e w6 ⟨rfl,b6⟩;have k6:=dX.ofBelow (rb:=rb) b6;have h6:=h5.below b6;have s6:=k6.lab L5.r;have A6:=A5.step s6 (by decide) (by decide);have L6:=L5.step s6 hrn (Ha O5);have Z6:=k6.blk Z5 (by omega);have O6:=k6.blk O5 (by omega);have K6:=K5.trans k6;have hne:=h5.nn;clear c6 b6 k6 s6 A5 L5 Z5 O5 K5 h5;cases hb:isS [125] st5 with
   | true =>
    have C6:=DP C5 hb;clear C5 hb hne;go_wp2
    go_roundg g'
    case rel=>(try ((repeat apply Hv);refine⟨?_,rfl⟩));exact⟨true,st5,acc.snoc X,_,v5,0,rfl,.inl rfl,HA,C6,h6,K6,Z6,O6,A6,L6⟩
    all_goals omega
   | false =>
    obtain⟨g2,C7,hg2⟩:=xL C5 (λx r hx=>by rw[HK.out];exact Ag _ _ _ _ hx) hb hne;have c7:=vj TI [44] (by decide) (by decide) h6;have HG:Hid (false=true\/(∃ea,onw (eI [44]) st5=.inl ea)\/g'=g2+1):=.inr (hg2.elim (λh=>.inr h) (λh=>.inl h));generalize onw (eI [44]) st5=st7 at *;clear C5 hb hne hg2 h6;go_wp2_with fail;refine c7.mono ?_;rintro e w7 ⟨rfl,h7,k7⟩;have s7:=k7.lab L6.r;have A7:=A6.step s7 (by decide) (by decide);have L7:=L6.step s7 hrn (Ha O6);have Z7:=k7.blk Z6 (by omega);have O7:=k7.blk O6 (by omega);have K7:=K6.trans k7;clear c7 k7 s7 A6 L6 Z6 O6 K6;go_wp2
    go_roundg g'
    case rel=>(try ((repeat apply Hv);refine⟨?_,rfl⟩));exact⟨false,st7,acc.snoc X,_,v5,g2,rfl,HG,HA,C7,h7,K7,Z7,O7,A7,L7⟩
    all_goals omega
def Fg (rec:Rdr)(m:Nat):Prop :=
 ∀ (w:G9) (rb:Nat) (all:List Tk) (o q:Nat) (st:Sq),(∀ x,x ∈ all->iJ x)->QS w rb all o q st->Nou (iZ rec m o q) st->Hn G5 204 #[.pointer (G1 ⟨rb,0,G0⟩)] w (gq rb all o q w st (iZ rec m o q))
theorem oc {f:List Tk->Rs Ex}{x:Tk}{r:List Tk}{e a:Nat}(X:Ex)(h:f (x::r)=.bad e a):Qd f (.inr (x::r)) X (.inl (e,a)):=⟨by simp only[onw];rw[h];rfl,λts y t hs hy=>by cases hs;rw[h] at hy;cases hy⟩
theorem CF {y:Tk}{r:List Tk}(h:y.k=2):Qd (il 2) (.inr (y::r)) y (.inr r):=⟨by simp[onw,il,h,stp],λts z t hs hz=>by cases hs;simp[il,h] at hz;exact hz.1⟩
theorem QS.downQ {w:G9}{rb o q:Nat}{all:List Tk}{st:Sq}(h:QS w rb all o (q+1) st) :
  ∃q':Int,w.cell? ⟨rb,3,G0⟩=G1 (.int .i64 q')/\(∀ j,w.frozen? ⟨rb,j,G0⟩=false)/\QS (w.setCell ⟨rb,3,G0⟩ (.int .i64 (Io (q' - 1)))) rb all o q st:=by
 match st,h with
 | .inl (er,a),⟨i,o',q',h1,h2,h3⟩ =>
  obtain⟨_,_,_,_,_,_,_,_,_,_,c3,_,_,hf⟩:=h1.next (Hd h2);exact⟨q',c3,hf,i,o',_,h1.set.2.2.1 _,h2,h3⟩
 | .inr [],⟨i,pl,h1,h2,h3⟩=>exact absurd rfl h3.1.ne
 | .inr (x::r),⟨i,pl,h1,h2,h3⟩ =>
  obtain⟨hx,_,hm⟩:=qk h2;obtain⟨_,_,_,_,_,_,_,_,_,_,c3,_,_,hf⟩:=h1.next hx;refine⟨_,c3,hf,i,pl,?_,h2,h3.1,h3.2.1,by have:=h3.2.2;omega⟩;have e:Io ((((q+1:Nat):Int))-1)=((q:Nat):Int):=by have:=h3.2.2;unfold Io;omega
  rw[e];exact h1.set.2.2.1 _
theorem CQ {rec:Rdr}(R:mK rec){m:Nat}(RS:Fg rec m){w:G9}{rb o q n:Nat}{all:List Tk}{x:Tk}{r:List Tk}(TI:∀ x,x ∈ all->iJ x)(hxt:x.t≠[])(hn9:n<6)(h:QS w rb all o q (.inr (x::r)))(hn:Nou (gz rec m x.t (n+1) o q) (.inr (x::r))) :
  Hn G5 164 #[.pointer (G1 ⟨rb,0,G0⟩),.int .i64 (n:Nat),.int .i64 (x.a:Nat)] w (gq rb all o q w (.inr (x::r)) (gz rec m x.t (n+1) o q)):=by
 have hrb:=h.lt;have K0:dX rb w (w.alloc exZ):=(dX.refl rb w).alloc _;have Z0:(w.alloc exZ).heap[w.heap.size]?=G1 exZ:=Hc w _;have h0:=h.alloc exZ;have hs1:w.heap.size<(w.alloc exZ).heap.size:=by simp
 have hle:=h.le;obtain⟨i,g,cap,L,hg,hi,hcL,hcap,hL,hm,d0,d1,d2,d3,d4,-,hf⟩:=h0.ok;clear d0 d1 d4 hm;by_cases hA:o=64\/q=4
 ·have EQ:gz rec m x.t (n+1) o q (x::r)=.bad 121 x.a:=by
   unfold gz;by_cases h4:q=4
   ·simp[h4]
   ·have h64:o=64:=by rcases hA with h|h;exact h;exact absurd h h4
    simp[h4,el,h64,Rs.bind]
  have c1:Hn G5 29 #[.pointer (G1 ⟨rb,0,G0⟩),.int .i64 121] (w.alloc exZ) λr' w'=>r'=.returned (.tuple #[])/\QS w' rb all o q (.inl (121,x.a))/\dX rb (w.alloc exZ) w':=jL 121 (by decide) h0;have HE:=oc (X:=f6) EQ;clear EQ hn h0;by_cases h64:o=64
  ·subst h64;clear hA;go_enter Tryz.func164,Tryz.ntmps164;go_wp2_with fail;refine c1.mono ?_;rintro e w1 ⟨rfl,h1,k1⟩;clear c1 d2 d3 hf;have Z1:=k1.blk Z0 (by have:=K0.size;omega);have K1:=K0.trans k1;clear K0 Z0;have KE:=K1.set5 (b:=w.heap.size) (by omega) (.int .i64 0) (.int .i64 0) (stv []) (.slice G0 0 0) (.int .i64 0);have RE:=h1.set5 (b:=w.heap.size) (by omega) (.int .i64 0) (.int .i64 0) (stv []) (.slice G0 0 0) (.int .i64 0);have ZE:=eX (.int .i64 0) (.int .i64 0) (stv []) (.slice G0 0 0) (.int .i64 0) Z1;obtain⟨z0,z1,z2,z3,z4,zf⟩:=dS Z1;obtain⟨u0,u1,u2,u3,u4,-⟩:=dS ZE;have FIN:=HE;clear ZE K1 Z1 h1;go_wp2;exact Hb (v:=exV f6 G0 0) (by simp[Hk,Tryz.results164,go_sem,u0,u1,u2,u3,u4,exV,f6,Fs.len]) rfl ⟨_,_,_,_,rfl,Sl.nil _ _ _,RE,KE,FIN⟩
  ·have h4:q=4:=by rcases hA with h|h;exact absurd h h64;exact h
   have b64:((o:Int)==64)=false:=by simp;omega
   subst h4;clear hA h64;go_enter Tryz.func164,Tryz.ntmps164;go_wp2_with fail;refine c1.mono ?_;rintro e w1 ⟨rfl,h1,k1⟩;clear c1 d2 d3 hf;have Z1:=k1.blk Z0 (by have:=K0.size;omega);have K1:=K0.trans k1;clear K0 Z0;have KE:=K1.set5 (b:=w.heap.size) (by omega) (.int .i64 0) (.int .i64 0) (stv []) (.slice G0 0 0) (.int .i64 0);have RE:=h1.set5 (b:=w.heap.size) (by omega) (.int .i64 0) (.int .i64 0) (stv []) (.slice G0 0 0) (.int .i64 0);have ZE:=eX (.int .i64 0) (.int .i64 0) (stv []) (.slice G0 0 0) (.int .i64 0) Z1;obtain⟨z0,z1,z2,z3,z4,zf⟩:=dS Z1;obtain⟨u0,u1,u2,u3,u4,-⟩:=dS ZE;have FIN:=HE;clear ZE K1 Z1 h1;go_wp2;exact Hb (v:=exV f6 G0 0) (by simp[Hk,Tryz.results164,go_sem,u0,u1,u2,u3,u4,exV,f6,Fs.len]) rfl ⟨_,_,_,_,rfl,Sl.nil _ _ _,RE,KE,FIN⟩
 ·have ho:o<64:=by have:=hle.1;omega
  have hq:q<4:=by have:=hle.2.1;omega
  have b64:((o:Int)==64)=false:=by simp;omega
  have b4:((q:Int)==4)=false:=by simp;omega
  have EQ:∀ ts,(.inr (x::r):Sq)=.inr ts->gz rec m x.t (n+1) o q ts=(λts=>(el x.t o ts).bind λa t1=>(il 2 t1).bind λy t2=>(eI [105,110] t2).bind λ_ t3=>(iZ rec m (o+1) (q+1) t3).bind λe t4=>(eI [58] t4).bind λ_ t5=>(rec 1 (o+1) (q+1) t5).bind λb t6=>.ok ⟨21,(n:Int)+1,y.t,a,(one e).snoc b⟩ t6) ts:=λts hs=>by
   cases hs;show (if q=4 then _ else _)=_;rw[if_neg (by omega)];rfl
  have HC:Hid (∀ X st',Qd (λts=>(el x.t o ts).bind λa t1=>(il 2 t1).bind λy t2=>(eI [105,110] t2).bind λ_ t3=>(iZ rec m (o+1) (q+1) t3).bind λe t4=>(eI [58] t4).bind λ_ t5=>(rec 1 (o+1) (q+1) t5).bind λb t6=>.ok ⟨21,(n:Int)+1,y.t,a,(one e).snoc b⟩ t6) (.inr (x::r)) X st'->Qd (gz rec m x.t (n+1) o q) (.inr (x::r)) X st'):=λX st' q=>q.congr λts hs=>(EQ ts hs).symm;have C0:=Ctx.start (hn.congr EQ);have C1:=C0.step (mw (o:=o) (x:=x) (r:=r) x.t);have h1:=h0.quants (q+1) (by omega);have h2:=h1;rw[show ((q+1:Nat):Int)=(q:Int)+1 by omega] at h2;have e1:onw (el x.t o) (.inr (x::r))=.inr r:=by simp[onw,el,stp,show ¬o=64 by omega]
  rw[e1] at C1;have HO:Hid (∀ wx,QS wx rb all o (q+1) (.inr (x::r))->Hn G5 104 #[.pointer (G1 ⟨rb,0,G0⟩)] wx λe w'=>e=.returned (.tuple #[])/\QS w' rb all (o+1) (q+1) (.inr r)/\dX rb wx w'):=λwx hh=>q7 ho hxt hh;have k0:=dX.at (rb:=rb) (w.alloc exZ) 3 (.int .i64 ((q:Int)+1));clear EQ hn h0 C0 h1 e1 hA;go_enter Tryz.func164,Tryz.ntmps164;go_upto_region 4 with fail;generalize w.alloc exZ=v0 at *;go_upto_region 5 with fail;generalize v0.setCell ⟨rb,3,G0⟩ (.int .i64 ((q:Int)+1))=w1 at *;clear d2 d3 hf;have Z1:=k0.blk Z0 (by have:=K0.size;omega);have K1:=K0.trans k0;clear K0 Z0;have c2:=HO.out w1 h2;go_wp2_with fail;refine c2.mono ?_;rintro e w2 ⟨rfl,h3,k2⟩;clear c2 HO h2;have Z2:=k2.blk Z1 (by have:=K1.size;omega);have K2:=K1.trans k2;clear K1 Z1;cases r with
  | nil=>exact absurd rfl h3.le.2.2.ne
  | Js y r2 =>
  obtain⟨i3,g3,cap3,L3,hg3,hi3,hcL3,hcap3,hL3,hm3,d0,d1,-,-,-,⟨t0,t1,t2,t3⟩,hf⟩:=h3.ok;have bz:Hf w2.heap.size w2 (w2.alloc (.cells #[.int .i64 0,.int .i64 0,.string ⟨#[]⟩,.int .i64 0] 67)):=(Hi _ w2).alloc (G4 _) _;have hrb2:rb<w2.heap.size:=h3.lt;have hgs:g3<w2.heap.size:=by omega
  have d0b:=(bz.cell (p:=⟨rb,0,G0⟩) hrb2).trans d0;have d1b:=(bz.cell (p:=⟨rb,1,G0⟩) hrb2).trans d1;have u0:=(bz.cell (p:=⟨g3,i3*4,G0⟩) hgs).trans t0;have u1:=(bz.cell (p:=⟨g3,i3*4+1,G0⟩) hgs).trans t1;have u2:=(bz.cell (p:=⟨g3,i3*4+2,G0⟩) hgs).trans t2;have u3:=(bz.cell (p:=⟨g3,i3*4+3,G0⟩) hgs).trans t3;have hiI:(i3:Int)<(L3:Int):=by omega
  have h2T:=jD w2 (.cells #[.int .i64 (y.k:Nat),.int .i64 y.n,stv y.t,.int .i64 (y.a:Nat)] 67);clear bz;go_upto_region 6 with fail;go_cut [7] (λv wx=>∃bt,v=.pointer (G1 ⟨bt,0,G0⟩)/\w2.heap.size<=bt/\wx.heap[bt]?=G1 (.cells #[.int .i64 (y.k:Nat),.int .i64 y.n,stv y.t,.int .i64 (y.a:Nat)] 67 (0,0))/\Hf w2.heap.size w2 wx)
  case first =>
   go_region
   all_goals
    go_wp2;go_meet;exact⟨_,rfl,G4 _,h2T.1,h2T.2⟩
  case rest =>
  obtain⟨bt,rfl,hbt0,TB,B1⟩:=hcut;clear t0 t1 t2 t3 d0 d1 hf hm3 d0b d1b u0 u1 u2 u3 h2T;have k3:=dX.ofBelow (rb:=rb) B1;have h4:=h3.below B1;have hbt:rb<bt:=by have:=h3.lt;omega
  clear h3 B1;have Z3:=k3.blk Z2 (by have:=K2.size;omega);have K3:=K2.trans k3;clear K2 Z2;obtain⟨p0,p1,p2,p3,pf⟩:=Blk.cells4 (o:=λ_=>0) (i:=0) ⟨TB,rfl⟩;by_cases hk:y.k=2
  ·have bk:((y.k:Int)==2)=true:=by simp[hk]
   have bk2:((y.k:Int) != 2)=false:=by rw[_root_.bne,bk];rfl
   have C2:=C1.step (CF hk);have hk0:y.k≠0:=by omega
   clear C1 hk;obtain⟨i4,g4,cap4,L4,hg4,hi4,hcL4,hcap4,hL4,hm4,-,d1,-,-,-,-,hf⟩:=h4.ok;have h5:=h4.over (.inr hk0) d1;have k4:=dX.at (rb:=rb) wc 1 (.int .i64 ((i4:Int)+1));clear h4;go_upto_region 11 with fail;generalize wc.setCell ⟨rb,1,G0⟩ (.int .i64 ((i4:Int)+1))=w4 at *;clear d1 hf hm4 p0 p1 p2 p3 pf;have Z4:=k4.blk Z3 (by have:=K3.size;omega);have K4:=K3.trans k4;have TB_4:=k4.blk TB (by omega);clear K3 Z3 TB;have c6:=oX TI [105,110] ⟨by decide,by decide⟩ h5;go_wp2_with fail;refine c6.mono ?_;rintro e w6 ⟨x6,st6,rfl,h6,k6,Q6⟩;have C6:=C2.step Q6;clear c6 Q6 C2;have Z6:=k6.blk Z4 (by have:=K4.size;omega);have K6:=K4.trans k6;have TB_6:=k6.blk TB_4 (by omega);clear K4 Z4 TB_4;have c7:=RS _ rb all (o+1) (q+1) st6 TI h6 C6.nou;go_wp2_with fail;refine c7.mono ?_;rintro e w7 ⟨x7,ao7,cap7,st7,rfl,S7,h7,k7,Q7⟩;have C7:=C6.step Q7;clear c7 Q7 C6;have S7a:=S7.low (show (w.heap.size+1)<=_ from (by have:=Ha Z6;omega));clear S7;have Z7:=k7.blk Z6 (by have:=K6.size;omega);have K7:=K6.trans k7;have TB_7:=k7.blk TB_6 (by omega);clear K6 Z6 TB_6;have h7a:=h7.alloc (.cells #[.int .i64 x7.k,.int .i64 x7.n,stv x7.nm,.slice ao7 x7.kids.len cap7,.int .i64 x7.a] 25);have K7a:=K7.alloc (.cells #[.int .i64 x7.k,.int .i64 x7.n,stv x7.nm,.slice ao7 x7.kids.len cap7,.int .i64 x7.a] 25);have Z7a:=(Hj w7 (.cells #[.int .i64 x7.k,.int .i64 x7.n,stv x7.nm,.slice ao7 x7.kids.len cap7,.int .i64 x7.a] 25) _ (Ha Z7)).trans Z7;have TB_7a:=(Hj w7 (.cells #[.int .i64 x7.k,.int .i64 x7.n,stv x7.nm,.slice ao7 x7.kids.len cap7,.int .i64 x7.a] 25) _ (Ha TB_7)).trans TB_7;have Y7_a:(IB w7 (.cells #[.int .i64 x7.k,.int .i64 x7.n,stv x7.nm,.slice ao7 x7.kids.len cap7,.int .i64 x7.a] 25)).heap[w7.heap.size]?=G1 (.cells #[.int .i64 x7.k,.int .i64 x7.n,stv x7.nm,.slice ao7 x7.kids.len cap7,.int .i64 x7.a] 25):=Hc w7 _;have S7a_7b:=S7a.allocN (.cells #[.int .i64 x7.k,.int .i64 x7.n,stv x7.nm,.slice ao7 x7.kids.len cap7,.int .i64 x7.a] 25);have hb7:rb<w7.heap.size:=by have:=K7.size;omega
   clear h7 K7 Z7 TB_7 S7a;rw[dU];have c8:=oX TI [58] ⟨by decide,by decide⟩ h7a;go_wp2_with fail;refine c8.mono ?_;rintro e w8 ⟨x8,st8,rfl,h8,k8,Q8⟩;have C8:=C7.step Q8;clear c8 Q8 C7;have Z8:=k8.blk Z7a (by have:=K7a.size;omega);have K8:=K7a.trans k8;have TB_8:=k8.blk TB_7a (by omega);have Y7_8:=k8.blk Y7_a (by omega);have S7a_8:=S7a_7b.keepN k8 (by omega);clear K7a Z7a TB_7a Y7_a S7a_7b;have c9:=R _ rb all 1 (o+1) (q+1) st8 TI (by omega) (by omega) h8 C8.nou;go_wp2_with fail;refine c9.mono ?_;rintro e w9 ⟨x9,ao9,cap9,st9,rfl,S9,h9,k9,Q9⟩;have C9:=C8.step Q9;clear c9 Q9 C8;have S9a:=S9.low (show (w.heap.size+1)<=_ from (by have:=Ha Z8;omega));clear S9;have Z9:=k9.blk Z8 (by have:=K8.size;omega);have K9:=K8.trans k9;have TB_9:=k9.blk TB_8 (by omega);have Y7_9:=k9.blk Y7_8 (by omega);have S7a_9:=S7a_8.keepN k9 (by omega);clear K8 Z8 TB_8 Y7_8 S7a_8;have h9a:=h9.alloc (.cells #[.int .i64 x9.k,.int .i64 x9.n,stv x9.nm,.slice ao9 x9.kids.len cap9,.int .i64 x9.a] 25);have K9a:=K9.alloc (.cells #[.int .i64 x9.k,.int .i64 x9.n,stv x9.nm,.slice ao9 x9.kids.len cap9,.int .i64 x9.a] 25);have Z9a:=(Hj w9 (.cells #[.int .i64 x9.k,.int .i64 x9.n,stv x9.nm,.slice ao9 x9.kids.len cap9,.int .i64 x9.a] 25) _ (Ha Z9)).trans Z9;have TB_9a:=(Hj w9 (.cells #[.int .i64 x9.k,.int .i64 x9.n,stv x9.nm,.slice ao9 x9.kids.len cap9,.int .i64 x9.a] 25) _ (Ha TB_9)).trans TB_9;have Y7_9a:=(Hj w9 (.cells #[.int .i64 x9.k,.int .i64 x9.n,stv x9.nm,.slice ao9 x9.kids.len cap9,.int .i64 x9.a] 25) _ (Ha Y7_9)).trans Y7_9;have Y9_a:(IB w9 (.cells #[.int .i64 x9.k,.int .i64 x9.n,stv x9.nm,.slice ao9 x9.kids.len cap9,.int .i64 x9.a] 25)).heap[w9.heap.size]?=G1 (.cells #[.int .i64 x9.k,.int .i64 x9.n,stv x9.nm,.slice ao9 x9.kids.len cap9,.int .i64 x9.a] 25):=Hc w9 _;have S7a_9b:=S7a_9.allocN (.cells #[.int .i64 x9.k,.int .i64 x9.n,stv x9.nm,.slice ao9 x9.kids.len cap9,.int .i64 x9.a] 25);have S9a_9b:=S9a.allocN (.cells #[.int .i64 x9.k,.int .i64 x9.n,stv x9.nm,.slice ao9 x9.kids.len cap9,.int .i64 x9.a] 25);have hb9:rb<w9.heap.size:=by have:=K9.size;omega
   clear h9 K9 Z9 TB_9 Y7_9 S7a_9 S9a;rw[dU];go_upto_region 15 with fail;generalize (IB w9 (.cells #[.int .i64 x9.k,.int .i64 x9.n,stv x9.nm,.slice ao9 x9.kids.len cap9,.int .i64 x9.a] 25))=v10 at *;obtain⟨o11,d11,df11,h11⟩:=h9a.down;have k11:dX rb v10 _:=dX.at v10 2 (.int .i64 (Io (o11-1)));clear h9a;go_upto_region 16 with fail;generalize v10.setCell ⟨rb,2,G0⟩ (.int .i64 (Io (o11-1)))=w11 at *;clear d11 df11;have Z11:=k11.blk Z9a (by have:=K9a.size;omega);have K11:=K9a.trans k11;have TB_11:=k11.blk TB_9a (by omega);have Y7_11:=k11.blk Y7_9a (by omega);have Y9_11:=k11.blk Y9_a (by omega);have S7a_11:=S7a_9b.keepN k11 (by omega);have S9a_11:=S9a_9b.keepN k11 (by omega);clear K9a Z9a TB_9a Y7_9a Y9_a S7a_9b S9a_9b;obtain⟨o12,d12,df12,h12⟩:=h11.downQ;have k12:dX rb w11 _:=dX.at w11 3 (.int .i64 (Io (o12-1)));clear h11;go_upto_region 17 with fail;generalize w11.setCell ⟨rb,3,G0⟩ (.int .i64 (Io (o12-1)))=w12 at *;clear d12 df12;have Z12:=k12.blk Z11 (by have:=K11.size;omega);have K12:=K11.trans k12;have TB_12:=k12.blk TB_11 (by omega);have Y7_12:=k12.blk Y7_11 (by omega);have Y9_12:=k12.blk Y9_11 (by omega);have S7a_12:=S7a_11.keepN k12 (by omega);have S9a_12:=S9a_11.keepN k12 (by omega);clear K11 Z11 TB_11 Y7_11 Y9_11 S7a_11 S9a_11;have HX:=HC.out _ _ C9.fin;have NS:Sl (IB w12 (.cells [.int .i64 x7.k,.int .i64 x7.n,stv x7.nm,.slice ao7 x7.kids.len cap7,.int .i64 x7.a,.int .i64 x9.k,.int .i64 x9.n,stv x9.nm,.slice ao9 x9.kids.len cap9,.int .i64 x9.a].toArray 25)) (Nw (w.heap.size+1)) ((one x7).snoc x9) (G1 ⟨w12.heap.size,0,G0⟩):=Sl.fresh _ 25 (Fc.app (Fc.one (e:=x7) cap7 S7a_12) (Fc.one (e:=x9) cap9 S9a_12)) (by have:=Ha Z12;omega);have KF:=K12.alloc (.cells [.int .i64 x7.k,.int .i64 x7.n,stv x7.nm,.slice ao7 x7.kids.len cap7,.int .i64 x7.a,.int .i64 x9.k,.int .i64 x9.n,stv x9.nm,.slice ao9 x9.kids.len cap9,.int .i64 x9.a].toArray 25);have RF:=h12.alloc (.cells [.int .i64 x7.k,.int .i64 x7.n,stv x7.nm,.slice ao7 x7.kids.len cap7,.int .i64 x7.a,.int .i64 x9.k,.int .i64 x9.n,stv x9.nm,.slice ao9 x9.kids.len cap9,.int .i64 x9.a].toArray 25);have ZF:=(Hj w12 (.cells [.int .i64 x7.k,.int .i64 x7.n,stv x7.nm,.slice ao7 x7.kids.len cap7,.int .i64 x7.a,.int .i64 x9.k,.int .i64 x9.n,stv x9.nm,.slice ao9 x9.kids.len cap9,.int .i64 x9.a].toArray 25) _ (Ha Z12)).trans Z12;have KE:=KF.set5 (b:=w.heap.size) (by omega) (.int .i64 21) (.int .i64 ((n:Int)+1)) (stv y.t) (.slice (G1 ⟨w12.heap.size,0,G0⟩) 2 2) (.int .i64 x.a);have RE:=RF.set5 (b:=w.heap.size) (by omega) (.int .i64 21) (.int .i64 ((n:Int)+1)) (stv y.t) (.slice (G1 ⟨w12.heap.size,0,G0⟩) 2 2) (.int .i64 x.a);have ZE:=eX (.int .i64 21) (.int .i64 ((n:Int)+1)) (stv y.t) (.slice (G1 ⟨w12.heap.size,0,G0⟩) 2 2) (.int .i64 x.a) ZF;have SE:Sl _ (Nw w.heap.size) _ _:=(NS.set5 (b:=w.heap.size) (by omega) (.int .i64 21) (.int .i64 ((n:Int)+1)) (stv y.t) (.slice (G1 ⟨w12.heap.size,0,G0⟩) 2 2) (.int .i64 x.a)).low (by omega);obtain⟨z0,z1,z2,z3,z4,zf⟩:=dS ZF;obtain⟨u0,u1,u2,u3,u4,-⟩:=dS ZE;obtain⟨y00,y01,y02,y03,y0f⟩:=Blk.cells4 (o:=λ_=>0) (i:=0) ⟨TB_12,rfl⟩;obtain⟨y10,y11,y12,y13,y14,y1f⟩:=dS Y7_12;obtain⟨y20,y21,y22,y23,y24,y2f⟩:=dS Y9_12;have FIN:=HX;clear HX ZE ZF KF RF NS K12 Z12 h12 TB_12 Y7_12 Y9_12 S7a_12 S9a_12;go_wp2;exact Hb (v:=exV ⟨21,((n:Int)+1),y.t,x.a,((one x7).snoc x9)⟩ (G1 ⟨w12.heap.size,0,G0⟩) 2) (by simp[Hk,Tryz.results164,go_sem,u0,u1,u2,u3,u4,exV];rfl) rfl ⟨_,_,_,_,rfl,SE,RE,KE,FIN⟩
  ·have bk:((y.k:Int)==2)=false:=by simp;omega
   have bk2:((y.k:Int) != 2)=true:=by rw[_root_.bne,bk];rfl
   have HE:=HC.out _ _ (C1.2 f6 (.inl (120,y.a)) (oc f6 (by simp[il,hk,Rs.bind])));clear C1 HC hk;have c5:Hn G5 29 #[.pointer (G1 ⟨rb,0,G0⟩),.int .i64 120] wc λr' w'=>r'=.returned (.tuple #[])/\QS w' rb all (o+1) (q+1) (.inl (120,y.a))/\dX rb wc w':=jL 120 (by decide) h4;clear h4;go_wp2_with fail;refine c5.mono ?_;rintro e w5 ⟨rfl,h5b,k5⟩;have h5:=h5b.bad.2.2 o q;clear c5 h5b p0 p1 p2 p3 pf TB;have Z5:=k5.blk Z3 (by have:=K3.size;omega);have K5:=K3.trans k5;clear K3 Z3;have KE:=K5.set5 (b:=w.heap.size) (by omega) (.int .i64 0) (.int .i64 0) (stv []) (.slice G0 0 0) (.int .i64 0);have RE:=h5.set5 (b:=w.heap.size) (by omega) (.int .i64 0) (.int .i64 0) (stv []) (.slice G0 0 0) (.int .i64 0);have ZE:=eX (.int .i64 0) (.int .i64 0) (stv []) (.slice G0 0 0) (.int .i64 0) Z5;obtain⟨z0,z1,z2,z3,z4,zf⟩:=dS Z5;obtain⟨u0,u1,u2,u3,u4,-⟩:=dS ZE;have FIN:=HE;clear ZE K5 Z5 h5;go_wp2;exact Hb (v:=exV f6 G0 0) (by simp[Hk,Tryz.results164,go_sem,u0,u1,u2,u3,u4,exV,f6,Fs.len]) rfl ⟨_,_,_,_,rfl,Sl.nil _ _ _,RE,KE,FIN⟩
theorem ql {f:List Tk->Rs Ex}{x:Tk}{r t:List Tk}{X:Ex}(h:f (x::r)=.ok X t):Qd f (.inr (x::r)) X (.inr t):=⟨by simp only[onw];rw[h];rfl,λts y t2 hs hy=>by cases hs;rw[h] at hy;exact(Rs.ok_inj hy).1⟩
theorem jv {L:List (List UInt8)}{x:Tk}{r:List Tk}{k:Nat}{s:List UInt8}(hk:L[k]?=G1 s)(hs:x.t=s)(hd:∀ j t,j<k->L[j]?=G1 t->t≠s):iS L (.inr (x::r))=(k:Nat):=q8 hk (by simp[isS,hs]) λj t hj ht=>by
 have:=hd j t hj ht
 simp only[isS,beq_eq_false_iff_ne,hs];exact λe=>this e.symm
theorem mt {L:List (List UInt8)}{x:Tk}{r:List Tk}(h:∀ s,s ∈ L->x.t≠s):iS L (.inr (x::r))=-1:=rM λj t _ ht=>by
 have:=h t (IT ht)
 simpa [isS] using this
theorem iJ.not {x:Tk}(h:iJ x)(hk:x.k≠3/\x.k≠4){s:List UInt8}(hs:s≠[])(hn:eH s=false):x.t≠s:=λe=>by
 have:=h s hs hn
 simp[hk.1,hk.2,e] at this
theorem DM {w:G9}{rb o q er a:Nat}{all:List Tk}(f:List Tk->Rs Ex)(h:QS w rb all o q (.inl (er,a))) :
  Hn G5 204 #[.pointer (G1 ⟨rb,0,G0⟩)] w (gq rb all o q w (.inl (er,a)) f):=by
 have hrb:=h.lt;have h0:=h.alloc exZ;have K0:dX rb w (w.alloc exZ):=(dX.refl rb w).alloc _;have Z0:(w.alloc exZ).heap[w.heap.size]?=G1 exZ:=Hc w _;obtain⟨hb,c4,-⟩:=h0.bad;have hb2:((er:Int) != 0)=true:=by simpa using hb
 have FIN:Hid (∀ wx st',(QS wx rb all o q st'/\dX rb w wx/\st'=.inl (er,a))->gq rb all o q w (.inl (er,a)) f (.returned (exV f6 G0 0)) wx):=λwx st' hh=>⟨f6,G0,0,st',rfl,Sl.nil _ _ _,hh.1,hh.2.1,by rw[hh.2.2];exact Qd.bad f _ _⟩;obtain⟨z0,z1,z2,z3,z4,zf⟩:=dS Z0;go_enter Tryz.func204,Tryz.ntmps204;go_wp2;exact Hb (v:=exV f6 G0 0) (by simp[Hk,JZ,go_sem,exV,f6,Fs.len]) rfl (FIN.out _ _ ⟨h0,K0,rfl⟩)
theorem EF {rec:Rdr}(R:mK rec){w:G9}{rb o q m:Nat}{all:List Tk}{x:Tk}{r:List Tk}(hm:m<=1000000)(TI:∀ x,x ∈ all->iJ x)(h:QS w rb all o q (.inr (x::r)))(hn:Nou (iZ rec m o q) (.inr (x::r))) :
  Hn G5 204 #[.pointer (G1 ⟨rb,0,G0⟩)] w (gq rb all o q w (.inr (x::r)) (iZ rec m o q)):=by
 have hrb:=h.lt;have K0:dX rb w (w.alloc exZ):=(dX.refl rb w).alloc _;have Z0:(w.alloc exZ).heap[w.heap.size]?=G1 exZ:=Hc w _;have h0:=h.alloc exZ;have d4:=h0.e0;go_enter Tryz.func204,Tryz.ntmps204;go_upto_region 3 with fail;generalize w.alloc exZ=v0 at *;clear d4;have h3:=h0;clear h0;obtain⟨i3,g3,cap3,L3,hg3,hi3,hcL3,hcap3,hL3,hm3,d0,d1,-,-,-,⟨t0,t1,t2,t3⟩,hf⟩:=h3.ok;have bz:Hf v0.heap.size v0 (v0.alloc (.cells #[.int .i64 0,.int .i64 0,.string ⟨#[]⟩,.int .i64 0] 67)):=(Hi _ v0).alloc (G4 _) _;have hrb2:rb<v0.heap.size:=h3.lt;have hgs:g3<v0.heap.size:=by omega
 have d0b:=(bz.cell (p:=⟨rb,0,G0⟩) hrb2).trans d0;have d1b:=(bz.cell (p:=⟨rb,1,G0⟩) hrb2).trans d1;have u0:=(bz.cell (p:=⟨g3,i3*4,G0⟩) hgs).trans t0;have u1:=(bz.cell (p:=⟨g3,i3*4+1,G0⟩) hgs).trans t1;have u2:=(bz.cell (p:=⟨g3,i3*4+2,G0⟩) hgs).trans t2;have u3:=(bz.cell (p:=⟨g3,i3*4+3,G0⟩) hgs).trans t3;have hiI:(i3:Int)<(L3:Int):=by omega
 have h2T:=jD v0 (.cells #[.int .i64 (x.k:Nat),.int .i64 x.n,stv x.t,.int .i64 (x.a:Nat)] 67);clear bz;go_upto_region 3 with fail;go_cut [3] (λv wx=>∃bt,v=.pointer (G1 ⟨bt,0,G0⟩)/\v0.heap.size<=bt/\wx.heap[bt]?=G1 (.cells #[.int .i64 (x.k:Nat),.int .i64 x.n,stv x.t,.int .i64 (x.a:Nat)] 67 (0,0))/\Hf v0.heap.size v0 wx)
 case first =>
  go_region
  all_goals
   go_wp2;go_meet;exact⟨_,rfl,G4 _,h2T.1,h2T.2⟩
 case rest =>
 obtain⟨bt,rfl,hbt0,TB,B1⟩:=hcut;clear t0 t1 t2 t3 d0 d1 hf d0b d1b u0 u1 u2 u3 h2T;have k3:=dX.ofBelow (rb:=rb) B1;have h4:=h3.below B1;have hbt:rb<bt:=by have:=h3.lt;omega
 clear h3 B1;have Z3:=k3.blk Z0 (by have:=K0.size;omega);have K3:=K0.trans k3;clear K0 Z0;obtain⟨A,hA⟩:∃A,iS [[118,101,114,116,105,99,101,115],[97,114,111,117,110,100],[123]] (.inr (x::r))=A:=⟨_,rfl⟩;have WL:Wl wc [[118,101,114,116,105,99,101,115],[97,114,111,117,110,100],[123]] (IB wc (.cells #[.string ⟨#[118,101,114,116,105,99,101,115]⟩,.string ⟨#[97,114,111,117,110,100]⟩,.string ⟨#[123]⟩] 9)) wc.heap.size:=lG wc [[118,101,114,116,105,99,101,115],[97,114,111,117,110,100],[123]] _;have c5:=jT TI [[118,101,114,116,105,99,101,115],[97,114,111,117,110,100],[123]] (by decide) (h4.below WL.1) (n:=3) (cap:=3) rfl WL.2.2.1 WL.2.2.2 (by omega) (by unfold Hu;omega);go_wp2_with fail;refine c5.mono ?_;rintro e w5 ⟨rfl,b5⟩;have B5:=WL.1.trans (b5.mono WL.1.size);have k5:=dX.ofBelow (rb:=rb) B5;have h5:=h4.below B5;clear WL c5 b5 B5 h4;have Z5:=k5.blk Z3 (by have:=K3.size;omega);have K5:=K3.trans k5;have TB_5:=k5.blk TB (by omega);clear K3 Z3 TB;rw[hA];have TX:=TI x hm3;clear hm3;by_cases hx0:x.t=[118,101,114,116,105,99,101,115]
 ·obtain rfl:A=0:=hA.symm.trans (jv (k:=0) rfl hx0 (by omega));have hk:¬x.k=2:=λe=>TX.not (by omega) (by decide) (by decide) hx0;have HE:Qd (iZ rec m o q) (.inr (x::r)) ⟨22,0,[],(x.a:Nat),.nil⟩ (.inr r):=ql (by simp only[iZ,hk,hx0,if_true,if_false]);have hxt:x.t≠[]:=by rw[hx0];decide
  clear hA hx0 hk TX hn;obtain⟨i6,g6,cap6,L6,hg6,hi6,hcL6,hcap6,hL6,hm6,-,d1,-,-,-,-,hf⟩:=h5.ok;have h6:=h5.over (.inl hxt) d1;have k6:=dX.at (rb:=rb) w5 1 (.int .i64 ((i6:Int)+1));clear h5;go_upto_region 7 with fail;generalize w5.setCell ⟨rb,1,G0⟩ (.int .i64 ((i6:Int)+1))=w6 at *;clear d1 hf hm6;have Z6:=k6.blk Z5 (by have:=K5.size;omega);have K6:=K5.trans k6;have TB_6:=k6.blk TB_5 (by omega);clear K5 Z5 TB_5;have KE:=K6.set5 (b:=w.heap.size) (by omega) (.int .i64 22) (.int .i64 0) (stv []) (.slice G0 0 0) (.int .i64 x.a);have RE:=h6.set5 (b:=w.heap.size) (by omega) (.int .i64 22) (.int .i64 0) (stv []) (.slice G0 0 0) (.int .i64 x.a);have ZE:=eX (.int .i64 22) (.int .i64 0) (stv []) (.slice G0 0 0) (.int .i64 x.a) Z6;obtain⟨z0,z1,z2,z3,z4,zf⟩:=dS Z6;obtain⟨u0,u1,u2,u3,u4,-⟩:=dS ZE;obtain⟨y00,y01,y02,y03,y0f⟩:=Blk.cells4 (o:=λ_=>0) (i:=0) ⟨TB_6,rfl⟩;have FIN:=HE;clear ZE K6 Z6 h6 TB_6;go_wp2;exact Hb (v:=exV ⟨22,0,[],x.a,.nil⟩ G0 0) (by simp[Hk,JZ,go_sem,u0,u1,u2,u3,u4,exV,Fs.len]) rfl ⟨_,_,_,_,rfl,Sl.nil _ _ _,RE,KE,FIN⟩
 by_cases hx1:x.t=[97,114,111,117,110,100]
 ·obtain rfl:A=1:=hA.symm.trans (jv (k:=1) rfl hx1 (λj t hj ht=>by (obtain rfl:j=0:=by omega);simp at ht;subst ht;decide));have hk:¬x.k=2:=λe=>TX.not (by omega) (by decide) (by decide) hx1;have C1:=(Ctx.start hn).eat (H:=(λts=>(el [40] o ts).bind λ_ t1=>(rec 1 (o+1) q t1).bind λe t2=>(eI [41] t2).bind λ_ t4=>.ok ⟨24,0,[],(x.a:Nat),one e⟩ t4)) (by simp only[iZ,hk,hx0,hx1,if_true,if_false,iP,jB,Rs.bind_assoc,Rs.ok_bind,Kk];rfl);have hxt:x.t≠[]:=by rw[hx1];decide
  clear hA hx0 hx1 hk TX hn;obtain⟨i6,g6,cap6,L6,hg6,hi6,hcL6,hcap6,hL6,hm6,-,d1,-,-,-,-,hf⟩:=h5.ok;have h6:=h5.over (.inl hxt) d1;have k6:=dX.at (rb:=rb) w5 1 (.int .i64 ((i6:Int)+1));clear h5;go_upto_region 10 with fail;generalize w5.setCell ⟨rb,1,G0⟩ (.int .i64 ((i6:Int)+1))=w6 at *;clear d1 hf hm6;have Z6:=k6.blk Z5 (by have:=K5.size;omega);have K6:=K5.trans k6;have TB_6:=k6.blk TB_5 (by omega);clear K5 Z5 TB_5;have c7:=kV TI [40] ⟨by decide,by decide⟩ h6;go_wp2_with fail;refine c7.mono ?_;rintro e w7 ⟨x7,st7,rfl,h7,k7,Q7⟩;have C7:=C1.step Q7;clear c7 Q7 C1;have Z7:=k7.blk Z6 (by have:=K6.size;omega);have K7:=K6.trans k7;have TB_7:=k7.blk TB_6 (by omega);clear K6 Z6 TB_6;have c8:=R _ rb all 1 (o+1) (q) st7 TI (by omega) (by omega) h7 C7.nou;go_wp2_with fail;refine c8.mono ?_;rintro e w8 ⟨x8,ao8,cap8,st8,rfl,S8,h8,k8,Q8⟩;have C8:=C7.step Q8;clear c8 Q8 C7;have S8a:=S8.low (show (w.heap.size+1)<=_ from (by have:=Ha Z7;omega));clear S8;have Z8:=k8.blk Z7 (by have:=K7.size;omega);have K8:=K7.trans k8;have TB_8:=k8.blk TB_7 (by omega);clear K7 Z7 TB_7;have h8a:=h8.alloc (.cells #[.int .i64 x8.k,.int .i64 x8.n,stv x8.nm,.slice ao8 x8.kids.len cap8,.int .i64 x8.a] 25);have K8a:=K8.alloc (.cells #[.int .i64 x8.k,.int .i64 x8.n,stv x8.nm,.slice ao8 x8.kids.len cap8,.int .i64 x8.a] 25);have Z8a:=(Hj w8 (.cells #[.int .i64 x8.k,.int .i64 x8.n,stv x8.nm,.slice ao8 x8.kids.len cap8,.int .i64 x8.a] 25) _ (Ha Z8)).trans Z8;have TB_8a:=(Hj w8 (.cells #[.int .i64 x8.k,.int .i64 x8.n,stv x8.nm,.slice ao8 x8.kids.len cap8,.int .i64 x8.a] 25) _ (Ha TB_8)).trans TB_8;have Y8_a:(IB w8 (.cells #[.int .i64 x8.k,.int .i64 x8.n,stv x8.nm,.slice ao8 x8.kids.len cap8,.int .i64 x8.a] 25)).heap[w8.heap.size]?=G1 (.cells #[.int .i64 x8.k,.int .i64 x8.n,stv x8.nm,.slice ao8 x8.kids.len cap8,.int .i64 x8.a] 25):=Hc w8 _;have S8a_8b:=S8a.allocN (.cells #[.int .i64 x8.k,.int .i64 x8.n,stv x8.nm,.slice ao8 x8.kids.len cap8,.int .i64 x8.a] 25);have hb8:rb<w8.heap.size:=by have:=K8.size;omega
  clear h8 K8 Z8 TB_8 S8a;rw[dU];have c9:=lj TI [41] ⟨by decide,by decide⟩ h8a;go_wp2_with fail;refine c9.mono ?_;rintro e w9 ⟨x9,st9,rfl,h9,k9,Q9⟩;have C9:=C8.step Q9;clear c9 Q9 C8;have Z9:=k9.blk Z8a (by have:=K8a.size;omega);have K9:=K8a.trans k9;have TB_9:=k9.blk TB_8a (by omega);have Y8_9:=k9.blk Y8_a (by omega);have S8a_9:=S8a_8b.keepN k9 (by omega);clear K8a Z8a TB_8a Y8_a S8a_8b;have NS:Sl (IB w9 (.cells [.int .i64 x8.k,.int .i64 x8.n,stv x8.nm,.slice ao8 x8.kids.len cap8,.int .i64 x8.a].toArray 25)) (Nw (w.heap.size+1)) (one x8) (G1 ⟨w9.heap.size,0,G0⟩):=Sl.fresh _ 25 (Fc.one (e:=x8) cap8 S8a_9) (by have:=Ha Z9;omega);have KF:=K9.alloc (.cells [.int .i64 x8.k,.int .i64 x8.n,stv x8.nm,.slice ao8 x8.kids.len cap8,.int .i64 x8.a].toArray 25);have RF:=h9.alloc (.cells [.int .i64 x8.k,.int .i64 x8.n,stv x8.nm,.slice ao8 x8.kids.len cap8,.int .i64 x8.a].toArray 25);have ZF:=(Hj w9 (.cells [.int .i64 x8.k,.int .i64 x8.n,stv x8.nm,.slice ao8 x8.kids.len cap8,.int .i64 x8.a].toArray 25) _ (Ha Z9)).trans Z9;have KE:=KF.set5 (b:=w.heap.size) (by omega) (.int .i64 24) (.int .i64 0) (stv []) (.slice (G1 ⟨w9.heap.size,0,G0⟩) 1 1) (.int .i64 x.a);have RE:=RF.set5 (b:=w.heap.size) (by omega) (.int .i64 24) (.int .i64 0) (stv []) (.slice (G1 ⟨w9.heap.size,0,G0⟩) 1 1) (.int .i64 x.a);have ZE:=eX (.int .i64 24) (.int .i64 0) (stv []) (.slice (G1 ⟨w9.heap.size,0,G0⟩) 1 1) (.int .i64 x.a) ZF;have SE:Sl _ (Nw w.heap.size) _ _:=(NS.set5 (b:=w.heap.size) (by omega) (.int .i64 24) (.int .i64 0) (stv []) (.slice (G1 ⟨w9.heap.size,0,G0⟩) 1 1) (.int .i64 x.a)).low (by omega);obtain⟨z0,z1,z2,z3,z4,zf⟩:=dS ZF;obtain⟨u0,u1,u2,u3,u4,-⟩:=dS ZE;have ylt0:bt<w9.heap.size:=Ha TB_9;obtain⟨y00,y01,y02,y03,y0f⟩:=Blk.cells4 (o:=λ_=>0) (i:=0) ⟨TB_9,rfl⟩;obtain⟨y10,y11,y12,y13,y14,y1f⟩:=dS Y8_9;have FIN:=C9.fin;clear C9 ZE ZF KF RF NS K9 Z9 h9 TB_9 Y8_9 S8a_9;go_wp2;exact Hb (v:=exV ⟨24,0,[],x.a,(one x8)⟩ (G1 ⟨w9.heap.size,0,G0⟩) 1) (by simp[Hk,JZ,go_sem,u0,u1,u2,u3,u4,exV];rfl) rfl ⟨_,_,_,_,rfl,SE,RE,KE,FIN⟩
 by_cases hx2:x.t=[123]
 ·obtain rfl:A=2:=hA.symm.trans (jv (k:=2) rfl hx2 (λj t hj ht=>by (obtain rfl|rfl:j=0\/j=1:=by omega)<;>simp at ht<;>subst ht<;>decide));have hk:¬x.k=2:=λe=>TX.not (by omega) (by decide) (by decide) hx2;have EQ:∀ ts,(.inr (x::r):Sq)=.inr ts->iZ rec m o q ts=sP rec m o q ts:=λts hs=>by
   cases hs;simp only[iZ,hk,hx0,hx1,if_false];rfl
  have HN:=hn.congr EQ;have HC:Hid (∀ X st',Qd (sP rec m o q) (.inr (x::r)) X st'->Qd (iZ rec m o q) (.inr (x::r)) X st'):=λX st' q=>q.congr λts hs=>(EQ ts hs).symm;clear EQ hA hx0 hx1 hx2 hk TX hn;obtain⟨y00,y01,y02,y03,y0f⟩:=Blk.cells4 (o:=λ_=>0) (i:=0) ⟨TB_5,rfl⟩;have c6:=EU R hm TI h5 HN;go_wp2_with fail;refine c6.mono ?_;rintro e w6 ⟨x6,ao6,cap6,st6,rfl,S6,h6,k6,Q6⟩;have HX:=HC.out _ _ Q6;clear c6 Q6 h5 y00 y01 y02 y03 y0f;have S6a:=S6.low (show (w.heap.size+1)<=_ from (by have:=Ha Z5;omega));clear S6;have Z6:=k6.blk Z5 (by have:=K5.size;omega);have K6:=K5.trans k6;have TB_6:=k6.blk TB_5 (by omega);clear K5 Z5 TB_5;have KE:=K6.set5 (b:=w.heap.size) (by omega) (.int .i64 x6.k) (.int .i64 x6.n) (stv x6.nm) (.slice ao6 x6.kids.len cap6) (.int .i64 x6.a);have RE:=h6.set5 (b:=w.heap.size) (by omega) (.int .i64 x6.k) (.int .i64 x6.n) (stv x6.nm) (.slice ao6 x6.kids.len cap6) (.int .i64 x6.a);have ZE:=eX (.int .i64 x6.k) (.int .i64 x6.n) (stv x6.nm) (.slice ao6 x6.kids.len cap6) (.int .i64 x6.a) Z6;have SE:Sl _ (Nw w.heap.size) _ _:=(S6a.set5 (b:=w.heap.size) (by omega) (.int .i64 x6.k) (.int .i64 x6.n) (stv x6.nm) (.slice ao6 x6.kids.len cap6) (.int .i64 x6.a)).low (by omega);obtain⟨z0,z1,z2,z3,z4,zf⟩:=dS Z6;obtain⟨u0,u1,u2,u3,u4,-⟩:=dS ZE;have FIN:=HX;clear ZE K6 Z6 h6 TB_6 S6a;rw[dU];go_wp2;exact Hb (v:=exV x6 ao6 cap6) (by simp[Hk,JZ,go_sem,u0,u1,u2,u3,u4,exV]) rfl ⟨_,_,_,_,rfl,SE,RE,KE,FIN⟩
 obtain rfl:A=-1:=hA.symm.trans (mt (by simp only[IR,IP,or_false];rintro s (rfl|rfl|rfl);exact hx0;exact hx1;exact hx2));by_cases hk:x.k=2
 ·have HE:Qd (iZ rec m o q) (.inr (x::r)) ⟨23,0,x.t,(x.a:Nat),.nil⟩ (.inr r):=ql (by simp only[iZ,hk,if_true]);have bk:((x.k:Int)==2)=true:=by simp[hk]
  have hk0:x.k≠0:=by omega
  clear hA hx0 hx1 hx2 hk TX hn;obtain⟨q0,q1,q2,q3,qf⟩:=Blk.cells4 (o:=λ_=>0) (i:=0) ⟨TB_5,rfl⟩;obtain⟨i6,g6,cap6,L6,hg6,hi6,hcL6,hcap6,hL6,hm6,-,d1,-,-,-,-,hf⟩:=h5.ok;have h6:=h5.over (.inr hk0) d1;have k6:=dX.at (rb:=rb) w5 1 (.int .i64 ((i6:Int)+1));clear h5;go_upto_region 18 with fail;generalize w5.setCell ⟨rb,1,G0⟩ (.int .i64 ((i6:Int)+1))=w6 at *;clear d1 hf hm6;have Z6:=k6.blk Z5 (by have:=K5.size;omega);have K6:=K5.trans k6;have TB_6:=k6.blk TB_5 (by omega);clear K5 Z5 TB_5;clear q0 q1 q2 q3 qf;have KE:=K6.set5 (b:=w.heap.size) (by omega) (.int .i64 23) (.int .i64 0) (stv x.t) (.slice G0 0 0) (.int .i64 x.a);have RE:=h6.set5 (b:=w.heap.size) (by omega) (.int .i64 23) (.int .i64 0) (stv x.t) (.slice G0 0 0) (.int .i64 x.a);have ZE:=eX (.int .i64 23) (.int .i64 0) (stv x.t) (.slice G0 0 0) (.int .i64 x.a) Z6;obtain⟨z0,z1,z2,z3,z4,zf⟩:=dS Z6;obtain⟨u0,u1,u2,u3,u4,-⟩:=dS ZE;obtain⟨y00,y01,y02,y03,y0f⟩:=Blk.cells4 (o:=λ_=>0) (i:=0) ⟨TB_6,rfl⟩;have FIN:=HE;clear ZE K6 Z6 h6 TB_6;go_wp2;exact Hb (v:=exV ⟨23,0,x.t,x.a,.nil⟩ G0 0) (by simp[Hk,JZ,go_sem,u0,u1,u2,u3,u4,exV,Fs.len]) rfl ⟨_,_,_,_,rfl,Sl.nil _ _ _,RE,KE,FIN⟩
 ·have HE:Qd (iZ rec m o q) (.inr (x::r)) f6 (.inl (120,x.a)):=oc f6 (by simp only[iZ,hk,hx0,hx1,if_false];simp[el,hx2,Rs.bind]);have bk:((x.k:Int)==2)=false:=by simp;omega
  clear hA hx0 hx1 hx2 hk TX hn;have c6:Hn G5 29 #[.pointer (G1 ⟨rb,0,G0⟩),.int .i64 120] w5 λr' w'=>r'=.returned (.tuple #[])/\QS w' rb all o q (.inl (120,x.a))/\dX rb w5 w':=jL 120 (by decide) h5;obtain⟨y00,y01,y02,y03,y0f⟩:=Blk.cells4 (o:=λ_=>0) (i:=0) ⟨TB_5,rfl⟩;go_wp2_with fail;refine c6.mono ?_;rintro e w6 ⟨rfl,h6,k6⟩;clear c6 h5 TB_5 y00 y01 y02 y03 y0f;have Z6:=k6.blk Z5 (by have:=K5.size;omega);have K6:=K5.trans k6;clear K5 Z5;have KE:=K6.set5 (b:=w.heap.size) (by omega) (.int .i64 0) (.int .i64 0) (stv []) (.slice G0 0 0) (.int .i64 0);have RE:=h6.set5 (b:=w.heap.size) (by omega) (.int .i64 0) (.int .i64 0) (stv []) (.slice G0 0 0) (.int .i64 0);have ZE:=eX (.int .i64 0) (.int .i64 0) (stv []) (.slice G0 0 0) (.int .i64 0) Z6;obtain⟨z0,z1,z2,z3,z4,zf⟩:=dS Z6;obtain⟨u0,u1,u2,u3,u4,-⟩:=dS ZE;have FIN:=HE;clear ZE K6 Z6 h6;go_wp2;exact Hb (v:=exV f6 G0 0) (by simp[Hk,JZ,go_sem,u0,u1,u2,u3,u4,exV,f6,Fs.len]) rfl ⟨_,_,_,_,rfl,Sl.nil _ _ _,RE,KE,FIN⟩
theorem GU {rec:Rdr}(R:mK rec){m:Nat}(hm:m<=1000000):Fg rec m:=by
 intro w rb all o q st TI h hn
 match st,h,hn with
 | .inl (er,a),h,hn=>exact DM _ h
 | .inr [],h,hn=>exact absurd rfl (h.nn [] rfl)
 | .inr (x::r),h,hn=>exact EF R hm TI h hn
theorem FE:∀ s,s ∈ cwL->s≠[]/\eH s=false:=by decide
theorem Fq:∀ s,s ∈ qwL->s≠[]/\eH s=false:=by decide
theorem xo {x:Tk}{r:List Tk}(h:oj x.t=G0):iS cwL (.inr (x::r))=-1:=mt λs b e=>by
 obtain⟨z,a,rfl⟩:=List.mem_map.1 b
 have:=List.find?_eq_none.1 h z a
 simp[e] at this
theorem uT {x:Tk}{r:List Tk}(h:ma x.t=G0):iS qwL (.inr (x::r))=-1:=mt λs b e=>by
 obtain⟨z,a,rfl⟩:=List.mem_map.1 b
 have:=List.find?_eq_none.1 h z a
 simp[e] at this
theorem sX {L:List (List UInt8)}(i:L.Nodup){k:Nat}{s:List UInt8}(g:L[k]?=G1 s):∀ j t,j<k->L[j]?=G1 t->t≠s:=λj t h f e=>by
 subst e;obtain⟨b,a⟩:=List.getElem?_eq_some_iff.1 g;obtain⟨d,c⟩:=List.getElem?_eq_some_iff.1 f;exact(List.pairwise_iff_getElem.1 i j k d b h) (c.trans a.symm)
theorem yy {x:Tk}{r:List Tk}{z:List UInt8 × Nat × Nat}(h:oj x.t=G1 z):∃i:Nat,iS cwL (.inr (x::r))=(i:Nat)/\i<10/\z.2.1=i+1/\z.2.2=(if i<3 then 2 else 1)/\x.t≠[]:=by
 have e:z ∈ gQ:=Ii h;have b:=Jm h;simp only[beq_iff_eq] at b;obtain⟨i,c,d⟩:=List.getElem_of_mem e;have f:gQ.length=10:=rfl;have h1:cwL[i]?=G1 z.1:=by
  rw[cwL,ID,Hd c,d];rfl
 have a:∀ i,(h:i<gQ.length)->gQ[i].2.1=i+1/\gQ[i].2.2=(if i<3 then 2 else 1)/\gQ[i].1≠[]:=by decide
 have:=a i c
 rw[d] at this;exact⟨i,jv h1 b.symm (sX (by decide) h1),by omega,this.1,this.2.1,by rw[<-b];exact this.2.2⟩
theorem uh {x:Tk}{r:List Tk}{z:List UInt8 × Nat}(h:ma x.t=G1 z):∃i:Nat,iS qwL (.inr (x::r))=(i:Nat)/\i<6/\z.2=i+1/\x.t≠[]:=by
 have e:z ∈ gO:=Ii h;have b:=Jm h;simp only[beq_iff_eq] at b;obtain⟨i,c,d⟩:=List.getElem_of_mem e;have f:gO.length=6:=rfl;have h1:qwL[i]?=G1 z.1:=by
  rw[qwL,ID,Hd c,d];rfl
 have a:∀ i,(h:i<gO.length)->gO[i].2=i+1/\gO[i].1≠[]:=by decide
 have:=a i c
 rw[d] at this;exact⟨i,jv h1 b.symm (sX (by decide) h1),by omega,this.1,by rw[<-b];exact this.2⟩
theorem DY {y:Tk}{r:List Tk}(h:y.k=1):Qd (il 1) (.inr (y::r)) y (.inr r):=⟨by simp[onw,il,h,stp],λts z t b a=>by cases b;simp[il,h] at a;exact a.1⟩
theorem Ek {rec:Rdr}(R:mK rec){m:Nat}(RS:Fg rec m){w:G9}{rb o q:Nat}{all:List Tk}{x:Tk}{r:List Tk}(TI:∀ x,x ∈ all->iJ x)(h:QS w rb all o q (.inr (x::r)))(hn:Nou (fB rec m o q) (.inr (x::r))) :
  Hn G5 105 #[.pointer (G1 ⟨rb,0,G0⟩)] w (gq rb all o q w (.inr (x::r)) (fB rec m o q)):=by
 have bS:=h.lt;have K0:dX rb w (w.alloc exZ):=(dX.refl rb w).alloc _;have Z0:(w.alloc exZ).heap[w.heap.size]?=G1 exZ:=Hc w _;have h0:=h.alloc exZ;have d4:=h0.e0;go_enter Tryz.func105,Tryz.ntmps105;go_upto_region 3 with fail;generalize w.alloc exZ=v0 at *;clear d4;have h3:=h0;clear h0;obtain⟨i3,g3,bP,L3,bU,bT,bJ,br,bX,a6,d0,d1,-,-,-,⟨t0,t1,t2,t3⟩,hf⟩:=h3.ok;have bz:Hf v0.heap.size v0 (v0.alloc (.cells #[.int .i64 0,.int .i64 0,.string ⟨#[]⟩,.int .i64 0] 67)):=(Hi _ v0).alloc (G4 _) _;have aq:rb<v0.heap.size:=h3.lt;have an:g3<v0.heap.size:=by omega
 have a8:=(bz.cell (p:=⟨rb,0,G0⟩) aq).trans d0;have a7:=(bz.cell (p:=⟨rb,1,G0⟩) aq).trans d1;have u0:=(bz.cell (p:=⟨g3,i3*4,G0⟩) an).trans t0;have u1:=(bz.cell (p:=⟨g3,i3*4+1,G0⟩) an).trans t1;have u2:=(bz.cell (p:=⟨g3,i3*4+2,G0⟩) an).trans t2;have u3:=(bz.cell (p:=⟨g3,i3*4+3,G0⟩) an).trans t3;have bp:(i3:Int)<(L3:Int):=by omega
 have aA:=jD v0 (.cells #[.int .i64 (x.k:Nat),.int .i64 x.n,stv x.t,.int .i64 (x.a:Nat)] 67);clear bz;go_upto_region 3 with fail;go_cut [3] (λv wx=>∃bt,v=.pointer (G1 ⟨bt,0,G0⟩)/\v0.heap.size<=bt/\wx.heap[bt]?=G1 (.cells #[.int .i64 (x.k:Nat),.int .i64 x.n,stv x.t,.int .i64 (x.a:Nat)] 67 (0,0))/\Hf v0.heap.size v0 wx)
 case first =>
  go_region
  all_goals
   go_wp2;go_meet;exact⟨_,rfl,G4 _,aA.1,aA.2⟩
 case rest =>
 obtain⟨bt,rfl,bL,TB,B1⟩:=hcut;clear t0 t1 t2 t3 d0 d1 hf a8 a7 u0 u1 u2 u3 aA;have k3:=dX.ofBelow (rb:=rb) B1;have h4:=h3.below B1;have bW:rb<bt:=by have:=h3.lt;omega
 clear h3 B1;have Z3:=k3.blk Z0 (by have:=K0.size;omega);have K3:=K0.trans k3;clear K0 Z0;obtain⟨A1,ad⟩:∃A,iS cwL (.inr (x::r))=A:=⟨_,rfl⟩;obtain⟨A2,ac⟩:∃A,iS qwL (.inr (x::r))=A:=⟨_,rfl⟩;obtain⟨A3,Z⟩:∃A,iS [[102,97,108,115,101],[116,114,117,101]] (.inr (x::r))=A:=⟨_,rfl⟩;obtain⟨A4,V⟩:∃A,iS [[64],[40],[105,102]] (.inr (x::r))=A:=⟨_,rfl⟩;have c5:=wP wc;go_wp2_with fail;refine c5.mono ?_;rintro e w5 ⟨g5,rfl,WL⟩;clear c5;have c6:=jT TI cwL FE (h4.below WL.1) (n:=10) (cap:=10) rfl WL.2.2.1 WL.2.2.2 (by omega) (by unfold Hu;omega);go_wp2_with fail;refine c6.mono ?_;rintro e w6 ⟨rfl,b6⟩;have B6:=WL.1.trans (b6.mono WL.1.size);have k6:=dX.ofBelow (rb:=rb) B6;have h6:=h4.below B6;clear WL c6 b6 B6 h4;have Z6:=k6.blk Z3 (by have:=K3.size;omega);have K6:=K3.trans k6;have a3:=k6.blk TB (by omega);clear K3 Z3 TB;rw[ad];have c7:=pb w6;go_wp2_with fail;refine c7.mono ?_;rintro e w7 ⟨g7,rfl,WL⟩;clear c7;have c8:=jT TI qwL Fq (h6.below WL.1) (n:=6) (cap:=6) rfl WL.2.2.1 WL.2.2.2 (by omega) (by unfold Hu;omega);go_wp2_with fail;refine c8.mono ?_;rintro e w8 ⟨rfl,b8⟩;have B8:=WL.1.trans (b8.mono WL.1.size);have k8:=dX.ofBelow (rb:=rb) B8;have h8:=h6.below B8;clear WL c8 b8 B8 h6;have Z8:=k8.blk Z6 (by have:=K6.size;omega);have K8:=K6.trans k8;have a2:=k8.blk a3 (by omega);clear K6 Z6 a3;rw[ac];have WL:Wl w8 [[102,97,108,115,101],[116,114,117,101]] (IB w8 (.cells #[.string ⟨#[102,97,108,115,101]⟩,.string ⟨#[116,114,117,101]⟩] 9)) w8.heap.size:=lG w8 [[102,97,108,115,101],[116,114,117,101]] _;have c9:=jT TI [[102,97,108,115,101],[116,114,117,101]] (by decide) (h8.below WL.1) (n:=2) (cap:=2) rfl WL.2.2.1 WL.2.2.2 (by omega) (by unfold Hu;omega);go_wp2_with fail;refine c9.mono ?_;rintro e w9 ⟨rfl,b9⟩;have B9:=WL.1.trans (b9.mono WL.1.size);have k9:=dX.ofBelow (rb:=rb) B9;have h9:=h8.below B9;clear WL c9 b9 B9 h8;have Z9:=k9.blk Z8 (by have:=K8.size;omega);have K9:=K8.trans k9;have a1:=k9.blk a2 (by omega);clear K8 Z8 a2;rw[Z];have WL:Wl w9 [[64],[40],[105,102]] (IB w9 (.cells #[.string ⟨#[64]⟩,.string ⟨#[40]⟩,.string ⟨#[105,102]⟩] 9)) w9.heap.size:=lG w9 [[64],[40],[105,102]] _;have bg:=jT TI [[64],[40],[105,102]] (by decide) (h9.below WL.1) (n:=3) (cap:=3) rfl WL.2.2.1 WL.2.2.2 (by omega) (by unfold Hu;omega);go_wp2_with fail;refine bg.mono ?_;rintro e af ⟨rfl,bh⟩;have ba:=WL.1.trans (bh.mono WL.1.size);have a5:=dX.ofBelow (rb:=rb) ba;have I:=h9.below ba;clear WL bg bh ba h9;have J:=a5.blk Z9 (by have:=K9.size;omega);have D:=K9.trans a5;have f:=a5.blk a1 (by omega);clear K9 Z9 a1;rw[V];clear a6;obtain⟨q0,q1,q2,q3,qf⟩:=Blk.cells4 (o:=λ_=>0) (i:=0) ⟨f,rfl⟩;by_cases k1:x.k=1
 ·have HE:Qd (fB rec m o q) (.inr (x::r)) ⟨1,x.n,[],(x.a:Nat),.nil⟩ (.inr r):=ql (by simp only[fB,k1,if_true]);have b1:((x.k:Int)==1)=true:=by simp[k1]
  have aR:x.k≠0:=by omega
  clear k1 hn ad ac Z V;obtain⟨W,aY,l,aZ,aD,aC,ao,ah,aE,Y,-,d1,-,-,-,-,hf⟩:=I.ok;have E:=I.over (.inr aR) d1;have u:=dX.at (rb:=rb) af 1 (.int .i64 ((W:Int)+1));clear I;go_upto_region 10 with fail;generalize af.setCell ⟨rb,1,G0⟩ (.int .i64 ((W:Int)+1))=L at *;clear d1 hf Y;have B:=u.blk J (by have:=D.size;omega);have C:=D.trans u;have g:=u.blk f (by omega);clear D J f;clear q0 q1 q2 q3 qf;have KE:=C.set5 (b:=w.heap.size) (by omega) (.int .i64 1) (.int .i64 x.n) (stv []) (.slice G0 0 0) (.int .i64 x.a);have RE:=E.set5 (b:=w.heap.size) (by omega) (.int .i64 1) (.int .i64 x.n) (stv []) (.slice G0 0 0) (.int .i64 x.a);have U:=eX (.int .i64 1) (.int .i64 x.n) (stv []) (.slice G0 0 0) (.int .i64 x.a) B;obtain⟨z0,z1,z2,z3,z4,zf⟩:=dS B;obtain⟨u0,u1,u2,u3,u4,-⟩:=dS U;obtain⟨T,S,Q,P,O⟩:=Blk.cells4 (o:=λ_=>0) (i:=0) ⟨g,rfl⟩;have K:=HE;clear U C B E g;go_wp2;exact Hb (v:=exV ⟨1,x.n,[],x.a,.nil⟩ G0 0) (by simp[Hk,I7,go_sem,u0,u1,u2,u3,u4,exV,Fs.len]) rfl ⟨_,_,_,_,rfl,Sl.nil _ _ _,RE,KE,K⟩
 have b1:((x.k:Int)==1)=false:=by simp;omega
 by_cases k2:x.k=2
 ·have HE:Qd (fB rec m o q) (.inr (x::r)) ⟨4,0,x.t,(x.a:Nat),.nil⟩ (.inr r):=ql (by simp only[fB,k1,k2,if_true,if_false];rw[if_neg (by decide)]);have b2:((x.k:Int)==2)=true:=by simp[k2]
  have aR:x.k≠0:=by omega
  clear k1 k2 hn ad ac Z V;obtain⟨W,aY,l,aZ,aD,aC,ao,ah,aE,Y,-,d1,-,-,-,-,hf⟩:=I.ok;have E:=I.over (.inr aR) d1;have u:=dX.at (rb:=rb) af 1 (.int .i64 ((W:Int)+1));clear I;go_upto_region 13 with fail;generalize af.setCell ⟨rb,1,G0⟩ (.int .i64 ((W:Int)+1))=L at *;clear d1 hf Y;have B:=u.blk J (by have:=D.size;omega);have C:=D.trans u;have g:=u.blk f (by omega);clear D J f;clear q0 q1 q2 q3 qf;have KE:=C.set5 (b:=w.heap.size) (by omega) (.int .i64 4) (.int .i64 0) (stv x.t) (.slice G0 0 0) (.int .i64 x.a);have RE:=E.set5 (b:=w.heap.size) (by omega) (.int .i64 4) (.int .i64 0) (stv x.t) (.slice G0 0 0) (.int .i64 x.a);have U:=eX (.int .i64 4) (.int .i64 0) (stv x.t) (.slice G0 0 0) (.int .i64 x.a) B;obtain⟨z0,z1,z2,z3,z4,zf⟩:=dS B;obtain⟨u0,u1,u2,u3,u4,-⟩:=dS U;obtain⟨T,S,Q,P,O⟩:=Blk.cells4 (o:=λ_=>0) (i:=0) ⟨g,rfl⟩;have K:=HE;clear U C B E g;go_wp2;exact Hb (v:=exV ⟨4,0,x.t,x.a,.nil⟩ G0 0) (by simp[Hk,I7,go_sem,u0,u1,u2,u3,u4,exV,Fs.len]) rfl ⟨_,_,_,_,rfl,Sl.nil _ _ _,RE,KE,K⟩
 have b2:((x.k:Int)==2)=false:=by simp;omega
 by_cases t0:x.t=[102,97,108,115,101]
 ·obtain rfl:A3=0:=Z.symm.trans (jv (k:=0) rfl t0 (by omega));have HE:Qd (fB rec m o q) (.inr (x::r)) ⟨2,0,[],(x.a:Nat),.nil⟩ (.inr r):=ql (by simp only[fB,k1,k2,t0,if_true,if_false]);have ag:x.t≠[]:=by rw[t0];decide
  clear k1 k2 t0 hn ad ac Z V;obtain⟨W,aY,l,aZ,aD,aC,ao,ah,aE,Y,-,d1,-,-,-,-,hf⟩:=I.ok;have E:=I.over (.inl ag) d1;have u:=dX.at (rb:=rb) af 1 (.int .i64 ((W:Int)+1));clear I;go_upto_region 16 with fail;generalize af.setCell ⟨rb,1,G0⟩ (.int .i64 ((W:Int)+1))=L at *;clear d1 hf Y;have B:=u.blk J (by have:=D.size;omega);have C:=D.trans u;have g:=u.blk f (by omega);clear D J f;clear q0 q1 q2 q3 qf;have KE:=C.set5 (b:=w.heap.size) (by omega) (.int .i64 2) (.int .i64 0) (stv []) (.slice G0 0 0) (.int .i64 x.a);have RE:=E.set5 (b:=w.heap.size) (by omega) (.int .i64 2) (.int .i64 0) (stv []) (.slice G0 0 0) (.int .i64 x.a);have U:=eX (.int .i64 2) (.int .i64 0) (stv []) (.slice G0 0 0) (.int .i64 x.a) B;obtain⟨z0,z1,z2,z3,z4,zf⟩:=dS B;obtain⟨u0,u1,u2,u3,u4,-⟩:=dS U;obtain⟨T,S,Q,P,O⟩:=Blk.cells4 (o:=λ_=>0) (i:=0) ⟨g,rfl⟩;have K:=HE;clear U C B E g;go_wp2;exact Hb (v:=exV ⟨2,0,[],x.a,.nil⟩ G0 0) (by simp[Hk,I7,go_sem,u0,u1,u2,u3,u4,exV,Fs.len]) rfl ⟨_,_,_,_,rfl,Sl.nil _ _ _,RE,KE,K⟩
 by_cases t1:x.t=[116,114,117,101]
 ·obtain rfl:A3=1:=Z.symm.trans (jv (k:=1) rfl t1 (λj t hj ht=>by (obtain rfl:j=0:=by omega);simp at ht;subst ht;decide));have HE:Qd (fB rec m o q) (.inr (x::r)) ⟨2,1,[],(x.a:Nat),.nil⟩ (.inr r):=ql (by simp only[fB,k1,k2,t0,t1,if_true,if_false];rfl);have ag:x.t≠[]:=by rw[t1];decide
  clear k1 k2 t0 t1 hn ad ac Z V;obtain⟨W,aY,l,aZ,aD,aC,ao,ah,aE,Y,-,d1,-,-,-,-,hf⟩:=I.ok;have E:=I.over (.inl ag) d1;have u:=dX.at (rb:=rb) af 1 (.int .i64 ((W:Int)+1));clear I;go_upto_region 16 with fail;generalize af.setCell ⟨rb,1,G0⟩ (.int .i64 ((W:Int)+1))=L at *;clear d1 hf Y;have B:=u.blk J (by have:=D.size;omega);have C:=D.trans u;have g:=u.blk f (by omega);clear D J f;clear q0 q1 q2 q3 qf;have KE:=C.set5 (b:=w.heap.size) (by omega) (.int .i64 2) (.int .i64 1) (stv []) (.slice G0 0 0) (.int .i64 x.a);have RE:=E.set5 (b:=w.heap.size) (by omega) (.int .i64 2) (.int .i64 1) (stv []) (.slice G0 0 0) (.int .i64 x.a);have U:=eX (.int .i64 2) (.int .i64 1) (stv []) (.slice G0 0 0) (.int .i64 x.a) B;obtain⟨z0,z1,z2,z3,z4,zf⟩:=dS B;obtain⟨u0,u1,u2,u3,u4,-⟩:=dS U;obtain⟨T,S,Q,P,O⟩:=Blk.cells4 (o:=λ_=>0) (i:=0) ⟨g,rfl⟩;have K:=HE;clear U C B E g;go_wp2;exact Hb (v:=exV ⟨2,1,[],x.a,.nil⟩ G0 0) (by simp[Hk,I7,go_sem,u0,u1,u2,u3,u4,exV,Fs.len]) rfl ⟨_,_,_,_,rfl,Sl.nil _ _ _,RE,KE,K⟩
 obtain rfl:A3=-1:=Z.symm.trans (mt (by simp only[IR,IP,or_false];rintro s (rfl|rfl);exact t0;exact t1));by_cases s0:x.t=[64]
 ·obtain rfl:A4=0:=V.symm.trans (jv (k:=0) rfl s0 (by omega));have C1:=(Ctx.start hn).eat (H:=λt=>(il 1 t).bind λy t1=>.ok ⟨3,y.n,[],(x.a:Nat),.nil⟩ t1) (by simp only[fB,k1,k2,t0,t1,s0,if_true,if_false];rfl);have ag:x.t≠[]:=by rw[s0];decide
  clear k1 k2 t0 t1 s0 hn ad ac Z V;obtain⟨W,aY,l,aZ,aD,aC,ao,ah,aE,Y,-,d1,-,-,-,-,hf⟩:=I.ok;have E:=I.over (.inl ag) d1;have u:=dX.at (rb:=rb) af 1 (.int .i64 ((W:Int)+1));clear I;go_upto_region 19 with fail;generalize af.setCell ⟨rb,1,G0⟩ (.int .i64 ((W:Int)+1))=L at *;clear d1 hf Y;have B:=u.blk J (by have:=D.size;omega);have C:=D.trans u;have g:=u.blk f (by omega);clear D J f;clear q0 q1 q2 q3 qf;cases r with
  | nil=>exact absurd rfl (E.nn [] rfl)
  | Js y r2 =>
  have h3:=E;clear E;obtain⟨aP,aT,bw,bC,bH,bF,bs,bn,bN,a6,d0,d1,-,-,-,⟨t0,t1,t2,t3⟩,hf⟩:=h3.ok;have bz:Hf L.heap.size L (L.alloc (.cells #[.int .i64 0,.int .i64 0,.string ⟨#[]⟩,.int .i64 0] 67)):=(Hi _ L).alloc (G4 _) _;have aq:rb<L.heap.size:=h3.lt;have an:aT<L.heap.size:=by omega
  have a8:=(bz.cell (p:=⟨rb,0,G0⟩) aq).trans d0;have a7:=(bz.cell (p:=⟨rb,1,G0⟩) aq).trans d1;have u0:=(bz.cell (p:=⟨aT,aP*4,G0⟩) an).trans t0;have u1:=(bz.cell (p:=⟨aT,aP*4+1,G0⟩) an).trans t1;have u2:=(bz.cell (p:=⟨aT,aP*4+2,G0⟩) an).trans t2;have u3:=(bz.cell (p:=⟨aT,aP*4+3,G0⟩) an).trans t3;have bp:(aP:Int)<(bC:Int):=by omega
  have aA:=jD L (.cells #[.int .i64 (y.k:Nat),.int .i64 y.n,stv y.t,.int .i64 (y.a:Nat)] 67);clear bz;go_upto_region 19 with fail;go_cut [8] (λv wx=>∃bu,v=.pointer (G1 ⟨bu,0,G0⟩)/\L.heap.size<=bu/\wx.heap[bu]?=G1 (.cells #[.int .i64 (y.k:Nat),.int .i64 y.n,stv y.t,.int .i64 (y.a:Nat)] 67 (0,0))/\Hf L.heap.size L wx)
  case first =>
   go_region
   all_goals
    go_wp2;go_meet;exact⟨_,rfl,G4 _,aA.1,aA.2⟩
  case rest =>
  obtain⟨bu,rfl,bK,TU,BU⟩:=hcut;clear t0 t1 t2 t3 d0 d1 hf a6 a8 a7 u0 u1 u2 u3 aA;have az:=dX.ofBelow (rb:=rb) BU;have au:=h3.below BU;have bV:rb<bu:=by have:=h3.lt;omega
  clear h3 BU;have av:=az.blk B (by have:=C.size;omega);have al:=C.trans az;have M:=az.blk g (by omega);clear C B g;obtain⟨T,S,Q,P,O⟩:=Blk.cells4 (o:=λ_=>0) (i:=0) ⟨M,rfl⟩;obtain⟨aL,aK,aJ,aI,aH⟩:=Blk.cells4 (o:=λ_=>0) (i:=0) ⟨TU,rfl⟩;by_cases ky:y.k=1
  ·have HE:=C1.step (DY ky);have HE:=HE.fin;have bB:((y.k:Int)==1)=true:=by simp[ky]
   have bA:((y.k:Int) != 1)=false:=by simp[ky]
   have aR:y.k≠0:=by omega
   clear ky C1;obtain⟨bc,bY,bx,bZ,bI,bG,bv,bo,bO,bd,-,d1,-,-,-,-,hf⟩:=au.ok;have ar:=au.over (.inr aR) d1;have ab:=dX.at (rb:=rb) wc 1 (.int .i64 ((bc:Int)+1));clear au;go_upto_region 24 with fail;generalize wc.setCell ⟨rb,1,G0⟩ (.int .i64 ((bc:Int)+1))=bb at *;clear d1 hf bd;have aj:=ab.blk av (by have:=al.size;omega);have ay:=al.trans ab;have ap:=ab.blk M (by omega);have aW:=ab.blk TU (by omega);clear al av M TU;clear T S Q P O aL aK aJ aI aH;have KE:=ay.set5 (b:=w.heap.size) (by omega) (.int .i64 3) (.int .i64 y.n) (stv []) (.slice G0 0 0) (.int .i64 x.a);have RE:=ar.set5 (b:=w.heap.size) (by omega) (.int .i64 3) (.int .i64 y.n) (stv []) (.slice G0 0 0) (.int .i64 x.a);have U:=eX (.int .i64 3) (.int .i64 y.n) (stv []) (.slice G0 0 0) (.int .i64 x.a) aj;obtain⟨z0,z1,z2,z3,z4,zf⟩:=dS aj;obtain⟨u0,u1,u2,u3,u4,-⟩:=dS U;obtain⟨T,S,Q,P,O⟩:=Blk.cells4 (o:=λ_=>0) (i:=0) ⟨ap,rfl⟩;obtain⟨aL,aK,aJ,aI,aH⟩:=Blk.cells4 (o:=λ_=>0) (i:=0) ⟨aW,rfl⟩;have K:=HE;clear U ay aj ar ap aW;go_wp2;exact Hb (v:=exV ⟨3,y.n,[],x.a,.nil⟩ G0 0) (by simp[Hk,I7,go_sem,u0,u1,u2,u3,u4,exV,Fs.len]) rfl ⟨_,_,_,_,rfl,Sl.nil _ _ _,RE,KE,K⟩
  ·have HE:=C1.2 f6 (.inl (120,y.a)) (oc f6 (by simp[il,ky,Rs.bind]));have bB:((y.k:Int)==1)=false:=by simp;omega
   have bA:((y.k:Int) != 1)=true:=by simp;omega
   clear ky C1 T S Q P O aL aK aJ aI aH;have aU:Hn G5 29 #[.pointer (G1 ⟨rb,0,G0⟩),.int .i64 120] wc λr' w'=>r'=.returned (.tuple #[])/\QS w' rb all o q (.inl (120,y.a))/\dX rb wc w':=jL 120 (by decide) au;obtain⟨T,S,Q,P,O⟩:=Blk.cells4 (o:=λ_=>0) (i:=0) ⟨M,rfl⟩;obtain⟨aL,aK,aJ,aI,aH⟩:=Blk.cells4 (o:=λ_=>0) (i:=0) ⟨TU,rfl⟩;go_wp2_with fail;refine aU.mono ?_;rintro e bb ⟨rfl,ar,ab⟩;clear aU au M TU T S Q P O aL aK aJ aI aH;have aj:=ab.blk av (by have:=al.size;omega);have ay:=al.trans ab;clear al av;have KE:=ay.set5 (b:=w.heap.size) (by omega) (.int .i64 0) (.int .i64 0) (stv []) (.slice G0 0 0) (.int .i64 0);have RE:=ar.set5 (b:=w.heap.size) (by omega) (.int .i64 0) (.int .i64 0) (stv []) (.slice G0 0 0) (.int .i64 0);have U:=eX (.int .i64 0) (.int .i64 0) (stv []) (.slice G0 0 0) (.int .i64 0) aj;obtain⟨z0,z1,z2,z3,z4,zf⟩:=dS aj;obtain⟨u0,u1,u2,u3,u4,-⟩:=dS U;have K:=HE;clear U ay aj ar;go_wp2;exact Hb (v:=exV f6 G0 0) (by simp[Hk,I7,go_sem,u0,u1,u2,u3,u4,exV,f6,Fs.len]) rfl ⟨_,_,_,_,rfl,Sl.nil _ _ _,RE,KE,K⟩
 by_cases s1:x.t=[40]
 ·obtain rfl:A4=1:=V.symm.trans (jv (k:=1) rfl s1 (λj t hj ht=>by (obtain rfl:j=0:=by omega);simp at ht;subst ht;decide));have C1:=(Ctx.start hn).congr (H:=(λts=>(el [40] o ts).bind λ_ t1=>(rec 1 (o+1) q t1).bind λe t2=>(eI [41] t2).bind λ_ t4=>.ok e t4)) (λts hs=>by cases hs;simp only[fB,k1,k2,t0,t1,s0,s1,if_true,if_false,iP,jB,Rs.bind_assoc,Rs.ok_bind,Kk];rfl);clear k1 k2 t0 t1 s0 s1 hn ad ac Z V;have aa:=kV TI [40] ⟨by decide,by decide⟩ I;go_wp2_with fail;refine aa.mono ?_;rintro e L ⟨c,aB,rfl,E,u,ak⟩;have a9:=C1.step ak;clear aa ak C1;have B:=u.blk J (by have:=D.size;omega);have C:=D.trans u;have g:=u.blk f (by omega);clear D J f;clear q0 q1 q2 q3 qf;have bf:=R _ rb all 1 (o+1) (q) aB TI (by omega) (by omega) E a9.nou;go_wp2_with fail;refine bf.mono ?_;rintro e aM ⟨d,N,G,bE,rfl,bi,au,az,bk⟩;have bm:=a9.step bk;clear bf bk a9;have a4:=bi.low (show (w.heap.size+1)<=_ from (by have:=Ha B;omega));clear bi;have av:=az.blk B (by have:=C.size;omega);have al:=C.trans az;have M:=az.blk g (by omega);clear C B g;have be:=au.alloc (zEx d N G);have aX:=al.alloc (zEx d N G);have a0:=(Hj aM (zEx d N G) _ (Ha av)).trans av;have aG:=(Hj aM (zEx d N G) _ (Ha M)).trans M;have aV:(IB aM (zEx d N G)).heap[aM.heap.size]?=G1 (zEx d N G):=Hc aM _;have am:=a4.allocN (zEx d N G);have bM:rb<aM.heap.size:=by have:=al.size;omega
  clear au al av M a4;rw[dU];have aU:=lj TI [41] ⟨by decide,by decide⟩ be;go_wp2_with fail;refine aU.mono ?_;rintro e bb ⟨bR,bD,rfl,ar,ab,bj⟩;have bl:=bm.step bj;clear aU bj bm;have aj:=ab.blk a0 (by have:=aX.size;omega);have ay:=aX.trans ab;have ap:=ab.blk aG (by omega);have aF:=ab.blk aV (by omega);have aw:=am.keepN ab (by omega);clear aX a0 aG aV am;have KE:=ay.set5 (b:=w.heap.size) (by omega) (.int .i64 d.k) (.int .i64 d.n) (stv d.nm) (.slice N d.kids.len G) (.int .i64 d.a);have RE:=ar.set5 (b:=w.heap.size) (by omega) (.int .i64 d.k) (.int .i64 d.n) (stv d.nm) (.slice N d.kids.len G) (.int .i64 d.a);have U:=eX (.int .i64 d.k) (.int .i64 d.n) (stv d.nm) (.slice N d.kids.len G) (.int .i64 d.a) aj;have SE:Sl _ (Nw w.heap.size) _ _:=(aw.set5 (b:=w.heap.size) (by omega) (.int .i64 d.k) (.int .i64 d.n) (stv d.nm) (.slice N d.kids.len G) (.int .i64 d.a)).low (by omega);obtain⟨z0,z1,z2,z3,z4,zf⟩:=dS aj;obtain⟨u0,u1,u2,u3,u4,-⟩:=dS U;obtain⟨aL,aK,aJ,aI,bQ,aH⟩:=dS aF;have K:=bl.fin;clear U bl ay aj ar ap aF aw;go_wp2;exact Hb (v:=exV d N G) (by simp[Hk,I7,go_sem,u0,u1,u2,u3,u4,exV]) rfl ⟨_,_,_,_,rfl,SE,RE,KE,K⟩
 by_cases s2:x.t=[105,102]
 ·obtain rfl:A4=2:=V.symm.trans (jv (k:=2) rfl s2 (λj t hj ht=>by (obtain rfl|rfl:j=0\/j=1:=by omega)<;>simp at ht<;>subst ht<;>decide));have EQ:∀ ts,(.inr (x::r):Sq)=.inr ts->fB rec m o q ts=gP rec o q ts:=λts hs=>by
   cases hs;simp only[fB,k1,k2,t0,t1,s0,s1,s2,if_true,if_false];rfl
  have HN:=hn.congr EQ;have HC:Hid (∀ X ai,Qd (gP rec o q) (.inr (x::r)) X ai->Qd (fB rec m o q) (.inr (x::r)) X ai):=λX ai q=>q.congr λts hs=>(EQ ts hs).symm;have CC:Hid (∀ wx,QS wx rb all o q (.inr (x::r))->Hn G5 162 #[.pointer (G1 ⟨rb,0,G0⟩),.int .i64 (x.a:Nat)] wx (gq rb all o q wx (.inr (x::r)) (gP rec o q))):=λwx hh=>BO R TI s2 hh HN;clear EQ HN k1 k2 t0 t1 s0 s1 s2 hn ad ac Z V q0 q1 q2 q3 qf;obtain⟨T,S,Q,P,O⟩:=Blk.cells4 (o:=λ_=>0) (i:=0) ⟨f,rfl⟩;have aa:=CC.out _ I;go_wp2_with fail;refine aa.mono ?_;rintro e L ⟨c,F,l,aB,rfl,ax,E,u,ak⟩;have HX:=HC.out _ _ ak;clear aa ak I T S Q P O;have ae:=ax.low (show (w.heap.size+1)<=_ from (by have:=Ha J;omega));clear ax;have B:=u.blk J (by have:=D.size;omega);have C:=D.trans u;have g:=u.blk f (by omega);clear D J f;have KE:=C.set5 (b:=w.heap.size) (by omega) (.int .i64 c.k) (.int .i64 c.n) (stv c.nm) (.slice F c.kids.len l) (.int .i64 c.a);have RE:=E.set5 (b:=w.heap.size) (by omega) (.int .i64 c.k) (.int .i64 c.n) (stv c.nm) (.slice F c.kids.len l) (.int .i64 c.a);have U:=eX (.int .i64 c.k) (.int .i64 c.n) (stv c.nm) (.slice F c.kids.len l) (.int .i64 c.a) B;have SE:Sl _ (Nw w.heap.size) _ _:=(ae.set5 (b:=w.heap.size) (by omega) (.int .i64 c.k) (.int .i64 c.n) (stv c.nm) (.slice F c.kids.len l) (.int .i64 c.a)).low (by omega);obtain⟨z0,z1,z2,z3,z4,zf⟩:=dS B;obtain⟨u0,u1,u2,u3,u4,-⟩:=dS U;have K:=HX;clear U C B E g ae;rw[dU];go_wp2;exact Hb (v:=exV c F l) (by simp[Hk,I7,go_sem,u0,u1,u2,u3,u4,exV]) rfl ⟨_,_,_,_,rfl,SE,RE,KE,K⟩
 obtain rfl:A4=-1:=V.symm.trans (mt (by simp only[IR,IP,or_false];rintro s (rfl|rfl|rfl);exact s0;exact s1;exact s2));cases hc:oj x.t with
 | some z =>
  obtain⟨i,hi,aS,aQ,aN,ag⟩:=yy (r:=r) hc;obtain⟨z0,zn,zm⟩:=z;simp only at aQ aN;subst aQ;obtain rfl:A1=(i:Nat):=ad.symm.trans hi;have bq:(0:Int)<=(i:Int):=by omega
  have EQ:∀ ts,(.inr (x::r):Sq)=.inr ts->fB rec m o q ts=lB rec zm i x.a o q ts:=λts hs=>by
   cases hs;simp only[fB,k1,k2,t0,t1,s0,s1,s2,hc,if_false,lB,List.tail_cons];rfl
  have HN:=hn.congr EQ;have HC:Hid (∀ X ai,Qd (lB rec zm i x.a o q) (.inr (x::r)) X ai->Qd (fB rec m o q) (.inr (x::r)) X ai):=λX ai q=>q.congr λts hs=>(EQ ts hs).symm;have CC:Hid (∀ wx,QS wx rb all o q (.inr (x::r))->Hn G5 163 #[.pointer (G1 ⟨rb,0,G0⟩),.int .i64 i,.int .i64 (x.a:Nat)] wx (gq rb all o q wx (.inr (x::r)) (lB rec zm i x.a o q))):=λwx hh=>by
   by_cases h3:i<3
   ·rw[if_pos h3] at aN;subst aN;exact Di R TI ag h3 hh HN
   ·rw[if_neg h3] at aN;subst aN;exact CZ R TI ag ⟨by omega,aS⟩ hh HN
  clear EQ HN k1 k2 t0 t1 s0 s1 s2 hn ad ac Z V hc hi aN q0 q1 q2 q3 qf ag;obtain⟨T,S,Q,P,O⟩:=Blk.cells4 (o:=λ_=>0) (i:=0) ⟨f,rfl⟩;have aa:=CC.out _ I;go_wp2_with fail;refine aa.mono ?_;rintro e L ⟨c,F,l,aB,rfl,ax,E,u,ak⟩;have HX:=HC.out _ _ ak;clear aa ak I T S Q P O;have ae:=ax.low (show (w.heap.size+1)<=_ from (by have:=Ha J;omega));clear ax;have B:=u.blk J (by have:=D.size;omega);have C:=D.trans u;have g:=u.blk f (by omega);clear D J f;have KE:=C.set5 (b:=w.heap.size) (by omega) (.int .i64 c.k) (.int .i64 c.n) (stv c.nm) (.slice F c.kids.len l) (.int .i64 c.a);have RE:=E.set5 (b:=w.heap.size) (by omega) (.int .i64 c.k) (.int .i64 c.n) (stv c.nm) (.slice F c.kids.len l) (.int .i64 c.a);have U:=eX (.int .i64 c.k) (.int .i64 c.n) (stv c.nm) (.slice F c.kids.len l) (.int .i64 c.a) B;have SE:Sl _ (Nw w.heap.size) _ _:=(ae.set5 (b:=w.heap.size) (by omega) (.int .i64 c.k) (.int .i64 c.n) (stv c.nm) (.slice F c.kids.len l) (.int .i64 c.a)).low (by omega);obtain⟨z0,z1,z2,z3,z4,zf⟩:=dS B;obtain⟨u0,u1,u2,u3,u4,-⟩:=dS U;have K:=HX;clear U C B E g ae;rw[dU];go_wp2;exact Hb (v:=exV c F l) (by simp[Hk,I7,go_sem,u0,u1,u2,u3,u4,exV]) rfl ⟨_,_,_,_,rfl,SE,RE,KE,K⟩
 | none =>
 obtain rfl:A1=-1:=ad.symm.trans (xo hc);cases aO:ma x.t with
 | some z =>
  obtain⟨i,hi,aS,aQ,ag⟩:=uh (r:=r) aO;obtain⟨z0,zn⟩:=z;simp only at aQ;subst aQ;obtain rfl:A2=(i:Nat):=ac.symm.trans hi;have bq:(0:Int)<=(i:Int):=by omega
  have EQ:∀ ts,(.inr (x::r):Sq)=.inr ts->fB rec m o q ts=gz rec m x.t (i+1) o q ts:=λts hs=>by
   cases hs;simp only[fB,k1,k2,t0,t1,s0,s1,s2,hc,aO,if_false]
  have HN:=hn.congr EQ;have HC:Hid (∀ X ai,Qd (gz rec m x.t (i+1) o q) (.inr (x::r)) X ai->Qd (fB rec m o q) (.inr (x::r)) X ai):=λX ai q=>q.congr λts hs=>(EQ ts hs).symm;have CC:Hid (∀ wx,QS wx rb all o q (.inr (x::r))->Hn G5 164 #[.pointer (G1 ⟨rb,0,G0⟩),.int .i64 i,.int .i64 (x.a:Nat)] wx (gq rb all o q wx (.inr (x::r)) (gz rec m x.t (i+1) o q))):=λwx hh=>CQ R RS TI ag aS hh HN;clear EQ HN k1 k2 t0 t1 s0 s1 s2 hn ad ac Z V hc aO hi q0 q1 q2 q3 qf ag;obtain⟨T,S,Q,P,O⟩:=Blk.cells4 (o:=λ_=>0) (i:=0) ⟨f,rfl⟩;have aa:=CC.out _ I;go_wp2_with fail;refine aa.mono ?_;rintro e L ⟨c,F,l,aB,rfl,ax,E,u,ak⟩;have HX:=HC.out _ _ ak;clear aa ak I T S Q P O;have ae:=ax.low (show (w.heap.size+1)<=_ from (by have:=Ha J;omega));clear ax;have B:=u.blk J (by have:=D.size;omega);have C:=D.trans u;have g:=u.blk f (by omega);clear D J f;have KE:=C.set5 (b:=w.heap.size) (by omega) (.int .i64 c.k) (.int .i64 c.n) (stv c.nm) (.slice F c.kids.len l) (.int .i64 c.a);have RE:=E.set5 (b:=w.heap.size) (by omega) (.int .i64 c.k) (.int .i64 c.n) (stv c.nm) (.slice F c.kids.len l) (.int .i64 c.a);have U:=eX (.int .i64 c.k) (.int .i64 c.n) (stv c.nm) (.slice F c.kids.len l) (.int .i64 c.a) B;have SE:Sl _ (Nw w.heap.size) _ _:=(ae.set5 (b:=w.heap.size) (by omega) (.int .i64 c.k) (.int .i64 c.n) (stv c.nm) (.slice F c.kids.len l) (.int .i64 c.a)).low (by omega);obtain⟨z0,z1,z2,z3,z4,zf⟩:=dS B;obtain⟨u0,u1,u2,u3,u4,-⟩:=dS U;have K:=HX;clear U C B E g ae;rw[dU];go_wp2;exact Hb (v:=exV c F l) (by simp[Hk,I7,go_sem,u0,u1,u2,u3,u4,exV]) rfl ⟨_,_,_,_,rfl,SE,RE,KE,K⟩
 | none =>
 obtain rfl:A2=-1:=ac.symm.trans (uT aO);have HE:Qd (fB rec m o q) (.inr (x::r)) f6 (.inl (120,x.a)):=oc f6 (by simp only[fB,k1,k2,t0,t1,s0,s1,s2,hc,aO,if_false]);clear k1 k2 t0 t1 s0 s1 s2 hn ad ac Z V hc aO q0 q1 q2 q3 qf;have aa:Hn G5 29 #[.pointer (G1 ⟨rb,0,G0⟩),.int .i64 120] af λr' w'=>r'=.returned (.tuple #[])/\QS w' rb all o q (.inl (120,x.a))/\dX rb af w':=jL 120 (by decide) I;obtain⟨T,S,Q,P,O⟩:=Blk.cells4 (o:=λ_=>0) (i:=0) ⟨f,rfl⟩;go_wp2_with fail;refine aa.mono ?_;rintro e L ⟨rfl,E,u⟩;clear aa I f T S Q P O;have B:=u.blk J (by have:=D.size;omega);have C:=D.trans u;clear D J;have KE:=C.set5 (b:=w.heap.size) (by omega) (.int .i64 0) (.int .i64 0) (stv []) (.slice G0 0 0) (.int .i64 0);have RE:=E.set5 (b:=w.heap.size) (by omega) (.int .i64 0) (.int .i64 0) (stv []) (.slice G0 0 0) (.int .i64 0);have U:=eX (.int .i64 0) (.int .i64 0) (stv []) (.slice G0 0 0) (.int .i64 0) B;obtain⟨z0,z1,z2,z3,z4,zf⟩:=dS B;obtain⟨u0,u1,u2,u3,u4,-⟩:=dS U;have K:=HE;clear U C B E;go_wp2;exact Hb (v:=exV f6 G0 0) (by simp[Hk,I7,go_sem,u0,u1,u2,u3,u4,exV,f6,Fs.len]) rfl ⟨_,_,_,_,rfl,Sl.nil _ _ _,RE,KE,K⟩
theorem Bv {n row o q:Nat}(hr:row=1\/row=2\/row=4\/row=5\/row=6):fN (n+1) row o q=λts=>(fN n (row+1) o q ts).bind λl t=>fW (fN n) n row o q l t:=by
 funext ts;rcases hr with rfl|rfl|rfl|rfl|rfl<;>rfl
theorem wY:∀ n,n<=1000000->mK (fN n)/\Ez (fN n)
 | 0,_=>⟨λw rb all row o q st TI h1 h7 h hn=>by
   match st,h,hn with
   | .inl (er,a),h,hn=>exact wQ _ h
   | .inr ts,h,hn=>exact absurd rfl (hn ts rfl),λw rb all o q x r TI h hn=>absurd rfl (hn _ rfl)⟩
 | n+1,hm=>by
  obtain⟨R,RA⟩:=wY n (by omega);refine⟨λw rb all row o q st TI h1 h7 h hn=>?_,λw rb all o q x r TI h hn=>?_⟩
  ·match st,h,hn with
   | .inl (er,a),h,hn=>exact wQ _ h
   | .inr [],h,hn=>exact absurd rfl (h.nn [] rfl)
   | .inr (x::r),h,hn =>
    by_cases h3:row=3
    ·subst h3;exact GB R TI h hn
    ·by_cases h7':row=7
     ·subst h7';exact GF R RA TI h hn
     ·have hr:row=1\/row=2\/row=4\/row=5\/row=6:=by omega
      rw[Bv hr] at hn ⊢;exact GA R hr TI h hn
  ·exact Ek R (GU R (by omega)) TI h hn
def zT (x:Tk):Prop:=(x.k=0/\x.t=[])\/(x.k=1/\x.t=[])\/(x.k=2/\eH x.t=true)\/(x.k=3/\iF x.t=true)\/(x.k=4/\x.t≠[])
theorem At {k:Nat}{t:List UInt8}{a:Nat}{x:Tk}(h:jS k t a=.inr x)(ht:t≠[]):zT x:=by
 unfold jS at h;split at h
 ·unfold jA at h;split at h
  ·rename_i hw
   injection h with h
   subst h;exact .inr (.inr (.inr (.inl ⟨rfl,hw⟩)))
  ·split at h
   ·rename_i hn
    injection h with h
    subst h;exact .inr (.inr (.inl ⟨rfl,hn⟩))
   ·cases h
 ·unfold kL at h;split at h
  ·split at h
   ·cases h
   ·injection h with h
    subst h;exact .inr (.inl ⟨rfl,rfl⟩)
  ·cases h
 ·unfold pF at h;split at h
  ·cases h
  ·injection h with h
   subst h;exact .inr (.inr (.inr (.inr ⟨rfl,ht⟩)))
 ·cases h
theorem FY (k:Nat)(t:List UInt8)(a p:Nat)(l:List UInt8)(ts:List Tk)(h:fg k t a p l=.inr ts)(ht:k=0\/t≠[]):∀ x,x ∈ ts->zT x:=by
 induction l generalizing k t a p ts with
 | nil =>
  intro x hx;unfold fg at h;rcases fF h with ⟨_,h2⟩|⟨hk,y,us,hp,h2,rfl⟩
  ·unfold tE at h2;injection h2 with h2
   subst h2;simp at hx;subst hx;exact .inl ⟨rfl,rfl⟩
  ·unfold tE at h2;injection h2 with h2
   subst h2;simp at hx;rcases hx with rfl|rfl
   ·exact At hp (by rcases ht with h|h;exact absurd h hk;exact h)
   ·exact .inl ⟨rfl,rfl⟩
 | Js c r ih =>
  unfold fg at h;split at h
  ·exact ih _ _ _ _ _ h (by rcases ht with h|h;exact .inl h;exact .inr (by simp))
  ·rcases fF h with ⟨_,h2⟩|⟨hk,y,us,hp,h2,rfl⟩
   ·exact ih _ _ _ _ _ h2 (.inr (by simp))
   ·intro x hx;rcases List.mem_cons.1 hx with rfl|hx
    ·exact At hp (by rcases ht with h|h;exact absurd h hk;exact h)
    ·exact ih _ _ _ _ _ h2 (.inr (by simp)) x hx
theorem EO {l:List UInt8}{ts:List Tk}(h:iE l=.inr ts):∀ x,x ∈ ts->zT x:=FY _ _ _ _ _ _ (l9 h).2.1 (.inl rfl)
theorem zT.is {x:Tk}(h:zT x){s:List UInt8}(hs:s≠[])(hn:eH s=false):((x.k==3||x.k==4)&&x.t==s)=(x.t==s):=by
 by_cases e:x.t=s
 ·have h2:x.k=3\/x.k=4:=by
   rcases h with ⟨_,h⟩|⟨_,h⟩|⟨_,h⟩|⟨h,_⟩|⟨h,_⟩
   ·rw[h] at e;exact absurd e.symm hs
   ·rw[h] at e;exact absurd e.symm hs
   ·rw[e,hn] at h;cases h
   ·exact .inl h
   ·exact .inr h
  rcases h2 with h2|h2<;>simp[h2,e]
 ·simp[e]
theorem AD (s:ByteArray)(q:Nat):(s.extract 0 q).data.toList=s.data.toList.take q:=by
 rw[mJ];simp
def Pce (k:Nat)(u:List UInt8):Prop:=k≠0/\∃c r,u=c::r/\cls c.toNat=k/\∀ j (h:j<r.length),tks k (c::r.take j) (r[j]).toNat=true
theorem xK {r:Nat}:cls r=0 ↔ blk r=true:=by
 unfold cls;constructor
 ·intro h;by_cases hb:blk r=true
  ·exact hb
  ·rw[if_neg hb] at h
   repeat' split at h
   all_goals omega
 ·intro h;rw[if_pos h]
theorem Pce.one (c:UInt8)(h:cls c.toNat≠0):Pce (cls c.toNat) [c]:=⟨h,c,[],rfl,rfl,λj h=>by simp at h⟩
theorem Pce.more {k:Nat}{u:List UInt8}(h:Pce k u)(c:UInt8)(ht:tks k u c.toNat=true):Pce k (u++[c]):=by
 obtain⟨h0,d,r,rfl,h1,h2⟩:=h;refine⟨h0,d,r++[c],rfl,h1,λj hj=>?_⟩;by_cases e:j<r.length
 ·rw[List.getElem_append_left e,List.take_append_of_le_length (by omega)];exact h2 j e
 ·have e2:j=r.length:=by simp at hj;omega
  subst e2;rw[List.getElem_append_right (by omega)];simp only[Kk,List.getElem_singleton];rw[List.take_append_of_le_length (by omega),Ke];exact ht
theorem Du (l:List UInt8):(⟨l.toArray⟩:ByteArray).size=l.length:=by show l.toArray.size=_;simp
theorem Pce.reads {k:Nat}{u:List UInt8}(h:Pce k u)(q:Nat)(m:List UInt8)(hm:∀ c r,m=c::r->tks k u c.toNat=false):fg 0 [] q q (u++m)=ge k u q (fg 0 [] (q+u.length) (q+u.length) m):=by
 obtain⟨h0,d,r,rfl,h1,h2⟩:=h;have hb:blk d.toNat=false:=by
  rw[<-Jc,<-xK,h1];exact h0
 rw[Jh,gi (k:=0) (by exact hb),h1];show fg k [d] q (q+1) (r++m)=_;rw[zY k [d] q (q+1) r m (λj h=>h2 j h) (λc' r' e=>hm c' r' e)];have e1:q+1+r.length=q+(d::r).length:=by simp;omega
 rw[e1];rfl
theorem qt {k:Nat}(h:k=1\/k=2)(t t':List UInt8)(c:Nat):tks k t c=tks k t' c:=by
 rcases h with rfl|rfl<;>rfl
theorem vD (t:List UInt8)(r:Nat):tks 3 t r=(r==61&&(t==[33]||t==[60])):=rfl
theorem xU (l:List UInt8)(k at0 e:Nat)(hk:k=1\/k=2)(h0:at0<e)(h1:e<=l.length)(hc:cls (l[at0]'(by omega)).toNat=k)(hin:∀ j (h:j<l.length),at0<=j->j<e->tks k [] (l[j]).toNat=true) :
  Pce k ((l.drop at0).take (e-at0)):=by
 have e1:e-at0=(e-(at0+1))+1:=by omega
 refine⟨by omega,l[at0]'(by omega),(l.drop (at0+1)).take (e-(at0+1)),?_,hc,λj hj=>?_⟩
 ·rw[mD l at0 (by omega),e1,List.take_succ_cons]
 ·rw[qt hk _ []];have hj':j<e-(at0+1):=by simp at hj;omega
  rw[List.getElem_take,List.getElem_drop];exact hin _ _ (by omega) (by omega)
theorem vU (l:List UInt8)(at0 e:Nat)(h0:at0<e)(h1:e<=l.length):((l.drop at0).take (e-at0)).length=e-at0:=by
 simp;omega
theorem n9 (l:List UInt8)(k at0 e:Nat)(hk:k=1\/k=2)(h0:at0<e)(h1:e<=l.length)(hc:cls (l[at0]'(by omega)).toNat=k)(hin:∀ j (h:j<l.length),at0<=j->j<e->tks k [] (l[j]).toNat=true)
  (hend:∀ h:e<l.length,tks k [] (l[e]).toNat=false):fg 0 [] at0 at0 (l.drop at0)=ge k ((l.drop at0).take (e-at0)) at0 (fg 0 [] e e (l.drop e)):=by
 have hP:=xU l k at0 e hk h0 h1 hc hin;have hs:l.drop at0=(l.drop at0).take (e-at0)++l.drop e:=by
  have h2:=(J2 (e-at0) (l.drop at0)).symm;rw[List.drop_drop] at h2;have e2:at0+(e-at0)=e:=by omega
  rw[e2] at h2;exact h2
 have hr:=hP.reads at0 (l.drop e) (λc r hcr=>by
  have hlt:e<l.length:=by
   by_cases hlt:e<l.length
   ·exact hlt
   ·rw[List.drop_eq_nil_of_le (by omega)] at hcr;cases hcr
  rw[mD l e hlt] at hcr;injection hcr with h2 h3
  rw[<-h2,qt hk _ []];exact hend hlt)
 rw[<-hs] at hr;rw[hr,vU l at0 e h0 h1];have e3:at0+(e-at0)=e:=by omega
 rw[e3]
def GM (a:Nat)(c:UInt8):Nat:=a*10+(c.toNat-48)
def ia (acc:Nat)(l:List UInt8):Nat:=l.foldl GM acc
theorem iX (acc:Nat)(c:UInt8)(r:List UInt8):ia acc (c::r)=ia (acc*10+(c.toNat-48)) r:=by
 unfold ia;rw[List.foldl_cons];rfl
theorem jd (acc:Nat):ia acc []=acc:=by
 unfold ia;rw[List.foldl_nil]
def uW (l:List UInt8):Prop:=∀ c,c ∈ l->48<=c.toNat/\c.toNat<=57
theorem CG (acc:Nat)(l:List UInt8):acc*10 ^ l.length<=ia acc l:=by
 induction l generalizing acc with
 | nil =>
  rw[I8,Nat.pow_zero,Nat.mul_one,jd];exact G4 _
 | Js c r ih =>
  rw[iX,Hy];refine In ?_ (ih _);rw[Nat.pow_succ,Nat.mul_comm (10 ^ r.length) 10,<-Nat.mul_assoc];exact Nat.mul_le_mul_right _ (by omega)
theorem qs (acc:Nat)(l:List UInt8):acc<=ia acc l:=by
 induction l generalizing acc with
 | nil =>
  rw[jd];exact G4 _
 | Js c r ih =>
  rw[iX];exact In (by omega) (ih _)
theorem nE (acc:Nat)(l m:List UInt8):ia acc (l++m)=ia (ia acc l) m:=by
 unfold ia;rw[List.foldl_append]
theorem zS (acc:Nat)(l:List UInt8)(hl:uW l)(h:ia acc l<18446744073709551616):JF acc l=.ok (ia acc l):=by
 induction l generalizing acc with
 | nil =>
  rw[jd];rfl
 | Js c r ih =>
  have hc:=hl c (by simp);rw[iX] at h ⊢;have hm:=qs (acc*10+(c.toNat-48)) r;simp only[JF];rw[if_pos hc,if_neg (by omega),if_neg (by omega)];exact ih _ (λd hd=>hl d (by simp[hd])) h
theorem yx (acc:Nat)(l:List UInt8)(hl:uW l)(u:Nat)(h:JF acc l=.ok u):u=ia acc l:=by
 induction l generalizing acc with
 | nil =>
  simp only[JF] at h;injection h with h
  rw[jd];exact h.symm
 | Js c r ih =>
  have hc:=hl c (by simp);rw[iX];simp only[JF] at h;rw[if_pos hc] at h;split at h
  ·cases h
  ·split at h
   ·cases h
   ·exact ih _ (λd hd=>hl d (by simp[hd])) h
theorem m9 {l:List UInt8}(hl:uW l)(h0:l≠[]):(ia 0 l<9223372036854775808->J9 l=.ok (ia 0 l:Nat))/\(9223372036854775808<=ia 0 l->∀ v,J9 l≠.ok v):=by
 cases l with
 | nil=>exact absurd rfl h0
 | Js c r =>
  have hc:=hl c (by simp);have hne:¬(c.toNat=43\/c.toNat=45):=by omega
  have hm:Lib.parseMag (c::r)=JF 0 (c::r):=by
   unfold Lib.parseMag;rw[if_neg (by simp)]
  constructor
  ·intro h;have hp:=zS 0 (c::r) hl (by omega);unfold J9;simp only;rw[if_neg hne,hm,hp];simp only;rw[if_neg (by omega),if_neg (by omega),if_neg (by omega)]
  ·intro h v hv;unfold J9 at hv;simp only at hv;rw[if_neg hne,hm] at hv;cases hp:JF 0 (c::r) with
   | ok u =>
    rw[hp] at hv;simp only at hv;have hu:=yx 0 (c::r) hl u hp;rw[if_pos (by omega)] at hv;cases hv
   | _=>rw[hp] at hv;cases hv
theorem vE {l:List UInt8}(h:∀ v,J9 l≠.ok v)(a:Nat):kL l a=.inl 111:=by
 unfold kL;split
 ·rename_i v hv
  exact absurd hv (h v)
 ·rfl
theorem qF {l:List UInt8}(h1:l.head?=G1 48)(h2:1<l.length)(a:Nat):kL l a=.inl 111:=by
 unfold kL;have hne:l≠[48]:=λe=>by rw[e] at h2;simp at h2
 split
 ·rw[if_pos ⟨h1,hne⟩]
 ·rfl
theorem Aw {l:List UInt8}(hl:uW l)(h0:l≠[])(h1:l.head?≠G1 48\/l.length<=1)(h2:ia 0 l<9223372036854775808)(a:Nat):kL l a=.inr ⟨1,(ia 0 l:Nat),[],a⟩:=by
 unfold kL;rw[(m9 hl h0).1 h2];simp only;rw[if_neg];rintro ⟨h3,h4⟩;rcases h1 with h1|h1
 ·exact h1 h3
 ·apply h4;cases l with
  | nil=>exact absurd rfl h0
  | Js c r =>
   simp at h1 h3;rw[h1,h3]
theorem yK {l:List UInt8}(hl:uW l)(h:19<l.length)(a:Nat):kL l a=.inl 111:=by
 cases l with
 | nil=>simp at h
 | Js c r =>
  by_cases hc:c=48
  ·exact qF (by rw[hc];rfl) (by omega) a
  ·refine vE ((m9 hl (by simp)).2 ?_) a;have h1:=hl c (by simp);have h2:1<=c.toNat-48:=by
    by_cases e:c.toNat=48
    ·exact absurd (Jv e) hc
    ·omega
   have h3:=CG (0*10+(c.toNat-48)) r;rw[iX];have h4:10 ^ 19<=10 ^ r.length:=Nat.pow_le_pow_right (by omega) (by simp at h;omega);have h5:1*10 ^ r.length<=(0*10+(c.toNat-48))*10 ^ r.length:=Nat.mul_le_mul_right _ (by omega);have h6:(10:Nat) ^ 19=10000000000000000000:=by decide
   omega
def pZ (l:List UInt8)(k at0 e:Nat):Prop:=at0<e/\e<=l.length/\(∀ j (h:j<l.length),at0<=j->j<e->tks k [] (l[j]).toNat=true)/\(∀ h:e<l.length,tks k [] (l[e]).toNat=false)
theorem EB (s:ByteArray)(at0:Nat)(w:G9)(hat:at0<s.size)(hs:s.size<=2000)(hd:dig (s[at0]).toNat=true) :
  Hn G5 96 #[.string s,.int .i64 (at0:Nat)] w λe w'=>∃e0:Nat,e=.returned (.int .i64 (e0:Nat))/\pZ s.data.toList 2 at0 e0/\w'=w:=by
 have HL:Hid (s.data.toList.length=s.size):=fk s;have hb0:(s[at0]'hat).toNat<256:=IZ _;have hatI:(at0:Int)<(s.size:Int):=by omega
 have HD:=Hg hd;go_enter Tryz.func96,Tryz.ntmps96;go_wp2_with (go_at_call 95;refine(jp _ _ hb0).mono ?_;rw[hd];rintro e w1 ⟨rfl,rfl⟩);clear hd;go_loopw [1] (λv wr=>∃k:Nat,v=.int .i64 (k:Nat)/\at0<=k/\k<=s.size/\(∀ j (h:j<s.data.toList.length),at0<=j->j<k->dig (s.data.toList[j]).toNat=true)/\wr=w1) (λv _=>s.size-(Ih v).toNat)
 case atStart=>exact⟨at0,by go_num,by omega,by omega,λj _ h1 h2=>by omega,rfl⟩
 case round =>
  obtain⟨k,rfl,h1,h2,hin,rfl⟩:=hrel;by_cases hlt:k<s.size
  ·have hkl:k<s.data.toList.length:=by have:=HL.out;omega
   have hkI:(k:Int)<(s.size:Int):=by omega
   have hbk:(s[k]'hlt).toNat<256:=IZ _;have hge:=fd s k hlt hkl;cases h3:dig (s[k]'hlt).toNat
   ·have fin:pZ s.data.toList 2 at0 k:=by
     refine⟨?_,by omega,hin,λh=>?_⟩
     ·by_cases e:at0=k
      ·subst e;rw[HD.out] at h3;cases h3
      ·omega
     ·show dig _=false;rw[hge];exact h3
    have HF:=Hg fin;clear fin hin hge;go_wp2_with (go_at_call 95;refine(jp _ _ hbk).mono ?_;rw[h3];rintro e w1 ⟨rfl,rfl⟩);go_ret;exact⟨k,rfl,HF.out,rfl⟩
   ·have RL:∀ j (h:j<s.data.toList.length),at0<=j->j<k+1->dig (s.data.toList[j]).toNat=true:=λj h h4 h5=>by
     by_cases e:j=k
     ·subst e;rw[hge];exact h3
     ·exact hin j h h4 (by omega)
    clear hin hge;go_wp2_with (go_at_call 95;refine(jp _ _ hbk).mono ?_;rw[h3];rintro e w1 ⟨rfl,rfl⟩);go_roundw
    case rel=>(try ((repeat apply Hv);refine⟨?_,rfl⟩));exact⟨k+1,by go_num,by omega,by omega,RL,by trivial⟩
    case measure=>simp[Ih];omega
  ·have hkI:¬(k:Int)<(s.size:Int):=by omega
   have HF:Hid (pZ s.data.toList 2 at0 k):=⟨by omega,by have:=HL.out;omega,hin,λh=>by have:=HL.out;omega⟩;clear hin;go_wp2;go_ret;exact⟨k,rfl,HF.out,rfl⟩
theorem mo (r:Nat):ltr r=(sml r||grt r):=rfl
theorem AI (s:ByteArray)(at0:Nat)(w:G9)(hat:at0<s.size)(hs:s.size<=2000)(hd:dig (s[at0]).toNat=false)(hl:ltr (s[at0]).toNat=true) :
  Hn G5 96 #[.string s,.int .i64 (at0:Nat)] w λe w'=>∃e0:Nat,e=.returned (.int .i64 (e0:Nat))/\pZ s.data.toList 1 at0 e0/\w'=w:=by
 have HL:Hid (s.data.toList.length=s.size):=fk s;have hb0:(s[at0]'hat).toNat<256:=IZ _;have hatI:(at0:Int)<(s.size:Int):=by omega
 have HD:=Hg hl;go_enter Tryz.func96,Tryz.ntmps96;go_wp2_with (go_at_call 95;refine(jp _ _ hb0).mono ?_;rw[hd];rintro e w1 ⟨rfl,rfl⟩);clear hd hl;go_loopw [1] (λv wr=>∃k:Nat,v=.int .i64 (k:Nat)/\at0<=k/\k<=s.size/\(∀ j (h:j<s.data.toList.length),at0<=j->j<k->tks 1 [] (s.data.toList[j]).toNat=true)/\wr=w1) (λv _=>s.size-(Ih v).toNat)
 case atStart=>exact⟨at0,by go_num,by omega,by omega,λj _ h1 h2=>by omega,rfl⟩
 case round =>
  obtain⟨k,rfl,h1,h2,hin,rfl⟩:=hrel;by_cases hlt:k<s.size
  ·have hkl:k<s.data.toList.length:=by have:=HL.out;omega
   have hkI:(k:Int)<(s.size:Int):=by omega
   have hbk:(s[k]'hlt).toNat<256:=IZ _;have hge:=fd s k hlt hkl;have HG:Hid (tks 1 [] (s[k]'hlt).toNat=true->∀ j (h:j<s.data.toList.length),at0<=j->j<k+1->tks 1 [] (s.data.toList[j]).toNat=true):=λh3 j h h4 h5=>by
    by_cases e:j=k
    ·subst e;rw[hge];exact h3
    ·exact hin j h h4 (by omega)
   have HE:Hid (tks 1 [] (s[k]'hlt).toNat=false->pZ s.data.toList 1 at0 k):=λh3=>by
    refine⟨?_,by omega,hin,λh=>?_⟩
    ·by_cases e:at0=k
     ·subst e;have h4:=HD.out;simp[tks,h4] at h3
     ·omega
    ·rw[hge];exact h3
   clear hin hge;cases h3:sml (s[k]'hlt).toNat
   ·cases h4:grt (s[k]'hlt).toNat
    ·cases h5:dig (s[k]'hlt).toNat
     ·by_cases h6:(s[k]'hlt).toNat=95
      ·have RL:=HG.out (by simp[tks,h6]);have H6:=Hg h6;clear HG HE h6;go_wp2_with (first|(go_at_call 98;refine(jl _ _ hbk).mono ?_;rw[h3];rintro e w1 ⟨rfl,rfl⟩)|(go_at_call 99;refine(pX _ _ hbk).mono ?_;rw[h4];rintro e w1 ⟨rfl,rfl⟩)|(go_at_call 95;refine(jp _ _ hbk).mono ?_;rw[h5];rintro e w1 ⟨rfl,rfl⟩;have h6:=H6.out;clear h3 h4 h5 hbk));go_roundw
       case rel=>(try ((repeat apply Hv);refine⟨?_,rfl⟩));exact⟨k+1,by go_num,by omega,by omega,RL,by trivial⟩
       case measure=>simp[Ih];omega
      ·have fin:=HE.out (by simp[tks,mo,h3,h4,h5,h6]);have HF:=Hg fin;have h6I:¬((s[k]'hlt).toNat:Int)=95:=by omega
       have h6B:(((s[k]'hlt).toNat:Int)==95)=false:=by simpa using h6I
       clear HG HE h6 fin;go_wp2_with (first|(go_at_call 98;refine(jl _ _ hbk).mono ?_;rw[h3];rintro e w1 ⟨rfl,rfl⟩)|(go_at_call 99;refine(pX _ _ hbk).mono ?_;rw[h4];rintro e w1 ⟨rfl,rfl⟩)|(go_at_call 95;refine(jp _ _ hbk).mono ?_;rw[h5];rintro e w1 ⟨rfl,rfl⟩));go_ret;exact⟨k,rfl,HF.out,rfl⟩
     ·have RL:=HG.out (by simp[tks,h5]);clear HG HE;go_wp2_with (first|(go_at_call 98;refine(jl _ _ hbk).mono ?_;rw[h3];rintro e w1 ⟨rfl,rfl⟩)|(go_at_call 99;refine(pX _ _ hbk).mono ?_;rw[h4];rintro e w1 ⟨rfl,rfl⟩)|(go_at_call 95;refine(jp _ _ hbk).mono ?_;rw[h5];rintro e w1 ⟨rfl,rfl⟩));go_roundw
      case rel=>(try ((repeat apply Hv);refine⟨?_,rfl⟩));exact⟨k+1,by go_num,by omega,by omega,RL,by trivial⟩
      case measure=>simp[Ih];omega
    ·have RL:=HG.out (by simp[tks,mo,h4]);clear HG HE;go_wp2_with (first|(go_at_call 98;refine(jl _ _ hbk).mono ?_;rw[h3];rintro e w1 ⟨rfl,rfl⟩)|(go_at_call 99;refine(pX _ _ hbk).mono ?_;rw[h4];rintro e w1 ⟨rfl,rfl⟩));go_roundw
     case rel=>(try ((repeat apply Hv);refine⟨?_,rfl⟩));exact⟨k+1,by go_num,by omega,by omega,RL,by trivial⟩
     case measure=>simp[Ih];omega
   ·have RL:=HG.out (by simp[tks,mo,h3]);clear HG HE;go_wp2_with (go_at_call 98;refine(jl _ _ hbk).mono ?_;rw[h3];rintro e w1 ⟨rfl,rfl⟩);go_roundw
    case rel=>(try ((repeat apply Hv);refine⟨?_,rfl⟩));exact⟨k+1,by go_num,by omega,by omega,RL,by trivial⟩
    case measure=>simp[Ih];omega
  ·have hkI:¬(k:Int)<(s.size:Int):=by omega
   have HF:Hid (pZ s.data.toList 1 at0 k):=⟨by omega,by have:=HL.out;omega,hin,λh=>by have:=HL.out;omega⟩;clear hin;go_wp2;go_ret;exact⟨k,rfl,HF.out,rfl⟩
def pe (l:List UInt8)(v:Int)(b:Bool):Prop:=(b=true/\∀ a,kL l a=.inr ⟨1,v,[],a⟩)\/(b=false/\v=0/\∀ a,kL l a=.inl 111)
def Cr (l:List UInt8)(e:Ja):Prop:=∃v b,e=.returned (.tuple #[.int .i64 v,.bool b])/\pe l v b
theorem qu (l:List UInt8)(i:Nat)(h:i<l.length):ia 0 (l.take (i+1))=ia 0 (l.take i)*10+((l[i]).toNat-48):=by
 rw[List.take_add_one,Hd h];show ia 0 (l.take i++[l[i]])=_;rw[nE,iX,jd]
theorem mi (l:List UInt8)(i:Nat):ia 0 (l.take i)<=ia 0 l:=by
 have h:=J2 i l;have h2:=nE 0 (l.take i) (l.drop i);rw[h] at h2;rw[h2];exact qs _ _
theorem y5 (s:ByteArray)(w:G9)(h0:0<s.size)(hs:s.size<=2000)(hD:uW s.data.toList) :
  Hn G5 97 #[.string s] w λe w'=>Cr s.data.toList e/\w'=w:=by
 have HL:Hid (s.data.toList.length=s.size):=fk s;have hne:s.data.toList≠[]:=λe=>by have:=HL.out;rw[e] at this;simp at this;omega
 have hh:=CT s h0;by_cases h19:19<s.size
 ·have fin:pe s.data.toList 0 false:=.inr ⟨rfl,rfl,λa=>yK hD (by rw[HL.out];exact h19) a⟩;have HF:=Hg fin;have hI:(19:Int)<(s.size:Int):=by omega
  clear fin hh;go_enter Tryz.func97,Tryz.ntmps97;go_wp2;go_ret2;exact⟨⟨_,_,rfl,HF.out⟩,rfl⟩
 ·have hI:¬(19:Int)<(s.size:Int):=by omega
  have hb0:(s[0]'h0).toNat<256:=IZ _;by_cases hlead:1<s.size/\(s[0]'h0).toNat=48
  ·obtain⟨h1,h48⟩:=hlead;have h5:s[0]'h0=48:=Jv h48;have fin:pe s.data.toList 0 false:=.inr ⟨rfl,rfl,λa=>qF (by rw[hh,h5]) (by rw[HL.out];exact h1) a⟩;have HF:=Hg fin;have h1I:(1:Int)<(s.size:Int):=by omega
   clear fin hh h5;go_enter Tryz.func97,Tryz.ntmps97;go_wp2;go_ret2;exact⟨⟨_,_,rfl,HF.out⟩,rfl⟩
  ·have HY:Hid (ia 0 s.data.toList<9223372036854775808->pe s.data.toList (ia 0 s.data.toList:Nat) true):=λh=>by
    refine .inl ⟨rfl,λa=>Aw hD hne ?_ h a⟩;by_cases h1:1<s.size
    ·left
     rw[hh];intro e;injection e with e
     exact hlead ⟨h1,by rw[e];rfl⟩
    ·right
     rw[HL.out];omega
   have HX:Hid (9223372036854775808<=ia 0 s.data.toList->pe s.data.toList 0 false):=λh=>.inr ⟨rfl,rfl,λa=>vE ((m9 hD hne).2 h) a⟩;have HDD:=Hg hD;by_cases h1:1<s.size
   ·have h1I:(1:Int)<(s.size:Int):=by omega
    have h48I:¬((s[0]'h0).toNat:Int)=48:=by
     intro e;exact hlead ⟨h1,by omega⟩
    have h48B:(((s[0]'h0).toNat:Int)==48)=false:=by simpa using h48I
    clear hlead hh;go_enter Tryz.func97,Tryz.ntmps97;go_wp2;go_loopw [4,5] (λv4 v5 wr=>∃k n:Nat,v5=.int .i64 (k:Nat)/\v4=.int .i64 (n:Nat)/\k<=s.size/\n=ia 0 (s.data.toList.take k)/\n<9223372036854775808/\wr=w) (λ_ v _=>s.size-(Ih v).toNat)
    case atStart=>exact⟨0,0,by go_num,by go_num,by omega,by rw[List.take_zero,jd],by omega,rfl⟩
    case round =>
     obtain⟨k,n,rfl,rfl,hk,hn,hnb,rfl⟩:=hrel;have HN:=Hg hn;clear hn;by_cases hlt:k<s.size
     ·have hkl:k<s.data.toList.length:=by rw[HL.out];exact hlt
      have hkI:(k:Int)<(s.size:Int):=by omega
      have hdg:=HDD.out (s.data.toList[k]'hkl) (IU _);have htd:=qu s.data.toList k hkl;rw[fd s k hlt hkl] at hdg htd;have hle:=mi s.data.toList (k+1);obtain⟨d,hd⟩:∃d,d=(s[k]'hlt).toNat-48:=⟨_,rfl⟩;have hd9:d<=9:=by omega
      have hdI:((s[k]'hlt).toNat:Int)-48=(d:Int):=by omega
      rw[<-hd,<-HN.out] at htd;obtain⟨q,hq⟩:∃q,q=(9223372036854775807-d) / 10:=⟨_,rfl⟩;have hqI:(9223372036854775807-(d:Int)).tdiv 10=(q:Int):=by
       rw[Int.tdiv_eq_ediv_of_nonneg (by omega)];omega
      have hwq:IntKind.i64.wrap (q:Int)=(q:Int):=by rw[II];omega
      by_cases hov:q<n
      ·have hovI:(q:Int)<(n:Int):=by omega
       have fin:=HX.out (by omega);have HF:=Hg fin;clear fin htd hle hd hq hdg;go_wp2;go_ret2;exact⟨⟨_,_,rfl,HF.out⟩,rfl⟩
      ·have hovI:¬(q:Int)<(n:Int):=by omega
       have hnn:10*n+d<9223372036854775808:=by omega
       have HT:=Hg htd;clear htd hle hd hq hdg;go_wp2;go_roundw
       case rel=>(try ((repeat apply Hv);refine⟨?_,rfl⟩));exact⟨k+1,10*n+d,by go_num,by go_num,by omega,by rw[HT.out];omega,hnn,by trivial⟩
       case measure=>simp[Ih];omega
     ·obtain rfl:k=s.size:=by omega
      have hn2:=HN.out;rw[KG (by rw[HL.out];exact G4 _)] at hn2;have fin:=HY.out (by omega);rw[<-hn2] at fin;have HF:=Hg fin;clear fin hn2;go_wp2;go_ret2;exact⟨⟨_,_,rfl,HF.out⟩,rfl⟩
   ·have h1I:¬(1:Int)<(s.size:Int):=by omega
    clear hlead hh;go_enter Tryz.func97,Tryz.ntmps97;go_wp2;go_loopw [4,5] (λv4 v5 wr=>∃k n:Nat,v5=.int .i64 (k:Nat)/\v4=.int .i64 (n:Nat)/\k<=s.size/\n=ia 0 (s.data.toList.take k)/\n<9223372036854775808/\wr=w) (λ_ v _=>s.size-(Ih v).toNat)
    case atStart=>exact⟨0,0,by go_num,by go_num,by omega,by rw[List.take_zero,jd],by omega,rfl⟩
    case round =>
     obtain⟨k,n,rfl,rfl,hk,hn,hnb,rfl⟩:=hrel;have HN:=Hg hn;clear hn;by_cases hlt:k<s.size
     ·have hkl:k<s.data.toList.length:=by rw[HL.out];exact hlt
      have hkI:(k:Int)<(s.size:Int):=by omega
      have hdg:=HDD.out (s.data.toList[k]'hkl) (IU _);have htd:=qu s.data.toList k hkl;rw[fd s k hlt hkl] at hdg htd;have hle:=mi s.data.toList (k+1);obtain⟨d,hd⟩:∃d,d=(s[k]'hlt).toNat-48:=⟨_,rfl⟩;have hd9:d<=9:=by omega
      have hdI:((s[k]'hlt).toNat:Int)-48=(d:Int):=by omega
      rw[<-hd,<-HN.out] at htd;obtain⟨q,hq⟩:∃q,q=(9223372036854775807-d) / 10:=⟨_,rfl⟩;have hqI:(9223372036854775807-(d:Int)).tdiv 10=(q:Int):=by
       rw[Int.tdiv_eq_ediv_of_nonneg (by omega)];omega
      have hwq:IntKind.i64.wrap (q:Int)=(q:Int):=by rw[II];omega
      by_cases hov:q<n
      ·have hovI:(q:Int)<(n:Int):=by omega
       have fin:=HX.out (by omega);have HF:=Hg fin;clear fin htd hle hd hq hdg;go_wp2;go_ret2;exact⟨⟨_,_,rfl,HF.out⟩,rfl⟩
      ·have hovI:¬(q:Int)<(n:Int):=by omega
       have hnn:10*n+d<9223372036854775808:=by omega
       have HT:=Hg htd;clear htd hle hd hq hdg;go_wp2;go_roundw
       case rel=>(try ((repeat apply Hv);refine⟨?_,rfl⟩));exact⟨k+1,10*n+d,by go_num,by go_num,by omega,by rw[HT.out];omega,hnn,by trivial⟩
       case measure=>simp[Ih];omega
     ·obtain rfl:k=s.size:=by omega
      have hn2:=HN.out;rw[KG (by rw[HL.out];exact G4 _)] at hn2;have fin:=HY.out (by omega);rw[<-hn2] at fin;have HF:=Hg fin;clear fin hn2;go_wp2;go_ret2;exact⟨⟨_,_,rfl,HF.out⟩,rfl⟩
def iY (l:List UInt8):List UInt8 :=
 match l with
 | []=>[]
 | c::r=>if (c.toNat=33\/c.toNat=60)/\r.head?=G1 61 then [c,61] else if sgn c.toNat=true/\c.toNat≠33 then [c] else []
theorem yA (c:UInt8)(r:List UInt8)(q:Nat)(h1:blk c.toNat=false)(h2:ltr c.toNat=false)(h3:dig c.toNat=false) :
  (iY (c::r)=[]/\fg 0 [] q q (c::r)=.inl (110,q))\/(iY (c::r)≠[]/\(iY (c::r)).length<=(c::r).length/\fg 0 [] q q (c::r)=mh ⟨4,0,iY (c::r),q⟩ (fg 0 [] (q+(iY (c::r)).length) (q+(iY (c::r)).length) ((c::r).drop (iY (c::r)).length))):=by
 cases h4:sgn c.toNat
 ·left
  have hc:cls c.toNat=4:=by simp[cls,h1,h2,h3,h4]
  refine⟨?_,?_⟩
  ·unfold iY;simp only;rw[if_neg,if_neg (by rw[h4];simp)];rintro ⟨h5|h5,_⟩<;>(rw[h5] at h4;cases h4)
  ·rw[gi (k:=0) (by exact h1),hc,yL];rfl
 ·have hc:cls c.toNat=3:=by simp[cls,h1,h2,h3,h4]
  by_cases h5:(c.toNat=33\/c.toNat=60)/\r.head?=G1 61
  ·right
   have hu:iY (c::r)=[c,61]:=by
    unfold iY;simp only;rw[if_pos h5]
   obtain⟨h6,h7⟩:=h5;cases r with
   | nil=>cases h7
   | Js d r' =>
    injection h7 with h7
    subst h7;rw[hu];refine⟨by simp,by simp,?_⟩;have hcc:c=33\/c=60:=by
     rcases h6 with h6|h6
     ·exact .inl (Jv h6)
     ·exact .inr (Jv h6)
    have hP:Pce 3 [c,61]:=by
     have h8:Pce 3 [c]:=by rw[<-hc];exact Pce.one c (by rw[hc];omega)
     refine h8.more 61 ?_;rcases hcc with rfl|rfl<;>rfl
    have hr:=hP.reads q r' (λd m _=>by
     rw[vD];rcases hcc with rfl|rfl<;>simp)
    show fg 0 [] q q ([c,61]++r')=_;rw[hr];unfold ge;rw[if_neg (by omega)];have hs:jS 3 [c,61] q=.inr ⟨4,0,[c,61],q⟩:=by
     show pF [c,61] q=_;unfold pF;rw[if_neg (by simp)]
    rw[hs];rfl
  ·have h8:Pce 3 [c]:=by rw[<-hc];exact Pce.one c (by rw[hc];omega)
   have hr:=h8.reads q r (λd m e=>by
    subst e;rw[vD];rw[<-Jc];intro hh;simp only[Ia,Jn,beq_iff_eq,Ko,and_true] at hh;apply h5;refine⟨?_,?_⟩
    ·rcases hh.2 with h|h
     ·left;rw[h];rfl
     ·right;rw[h];rfl
    ·show G1 d=G1 61
     congr 1
     exact Jv hh.1)
   have hr':fg 0 [] q q (c::r)=ge 3 [c] q (fg 0 [] (q+1) (q+1) r):=hr;by_cases h33:c.toNat=33
   ·left
    have hc33:c=33:=Jv h33;refine⟨?_,?_⟩
    ·unfold iY;simp only;rw[if_neg h5,if_neg (by simp[h33])]
    ·rw[hr',hc33];rfl
   ·right
    have hu:iY (c::r)=[c]:=by
     unfold iY;simp only;rw[if_neg h5,if_pos ⟨h4,h33⟩]
    rw[hu];refine⟨by simp,by simp,?_⟩;rw[hr'];unfold ge;rw[if_neg (by omega)];have hs:jS 3 [c] q=.inr ⟨4,0,[c],q⟩:=by
     show pF [c] q=_;unfold pF;rw[if_neg (by intro e;injection e with e _;rw[e] at h33;exact h33 rfl)]
    rw[hs];rfl
def sgA (i:Nat):Nat :=
 match i with
 | 0=>40 | 1=>41 | 2=>123 | 3=>125 | 4=>44 | 5=>58 | 6=>64 | 7=>43 | 8=>45 | 9=>42 | 10=>47 | 11=>37 | 12=>61|_=>60
theorem wF (r:Nat):(sgn r=true/\r≠33) ↔ ∃i,i<14/\sgA i=r:=by
 constructor
 ·rintro ⟨h,h33⟩;simp[sgn,or_assoc] at h;rcases h with h|h|h|h|h|h|h|h|h|h|h|h|h|h|h
  ·exact⟨0,by omega,h.symm⟩
  ·exact⟨1,by omega,h.symm⟩
  ·exact⟨2,by omega,h.symm⟩
  ·exact⟨3,by omega,h.symm⟩
  ·exact⟨4,by omega,h.symm⟩
  ·exact⟨5,by omega,h.symm⟩
  ·exact⟨6,by omega,h.symm⟩
  ·exact⟨7,by omega,h.symm⟩
  ·exact⟨8,by omega,h.symm⟩
  ·exact⟨9,by omega,h.symm⟩
  ·exact⟨10,by omega,h.symm⟩
  ·exact⟨11,by omega,h.symm⟩
  ·exact⟨12,by omega,h.symm⟩
  ·exact absurd h h33
  ·exact⟨13,by omega,h.symm⟩
 ·rintro ⟨i,hi,rfl⟩
  match i,hi with
  | 0,_=>exact⟨rfl,by decide⟩
  | 1,_=>exact⟨rfl,by decide⟩
  | 2,_=>exact⟨rfl,by decide⟩
  | 3,_=>exact⟨rfl,by decide⟩
  | 4,_=>exact⟨rfl,by decide⟩
  | 5,_=>exact⟨rfl,by decide⟩
  | 6,_=>exact⟨rfl,by decide⟩
  | 7,_=>exact⟨rfl,by decide⟩
  | 8,_=>exact⟨rfl,by decide⟩
  | 9,_=>exact⟨rfl,by decide⟩
  | 10,_=>exact⟨rfl,by decide⟩
  | 11,_=>exact⟨rfl,by decide⟩
  | 12,_=>exact⟨rfl,by decide⟩
  | 13,_=>exact⟨rfl,by decide⟩
theorem yT (s:ByteArray)(w:G9)(h0:0<s.size)(hs:s.size<=2000)(hx:s.size<=1\/(1<s.size/\¬(s.extract 0 2).toList=[33,61]/\¬(s.extract 0 2).toList=[60,61]))(R:ByteArray)(hR:(∃i,i<14/\sgA i=(s[0]'h0).toNat)/\R=s.extract 0 1\/(∀ i,i<14->sgA i≠(s[0]'h0).toNat)/\R=⟨#[]⟩) :
  Hn G5 102 #[.string s] w λe w'=>e=.returned (.string R)/\Hf w.heap.size w w':=by
 have HR:=Hg hR;have hb:(s[0]'h0).toNat<256:=IZ _;have h0I:(0:Int)<(s.size:Int):=by omega
 have h1s:(1:Int)<=(s.size:Int):=by omega
 clear hR;rcases hx with hx|⟨hx0,hx1,hx2⟩
 ·have h1I:¬(1:Int)<(s.size:Int):=by omega
  go_enter Tryz.func102,Tryz.ntmps102;go_upto_region 4 with fail;obtain⟨A,hA⟩:∃A:ByteArray,A=⟨#[40,41,123,125,44,58,64,43,45,42,47,37,61,60]⟩:=⟨_,rfl⟩;rw[<-hA];have hAs:A.size=14:=by rw[hA];rfl
  have HAA:Hid (∀ i (h:i<A.size),(A[i]).toNat=sgA i):=by
   intro i h;subst hA
   match i,h with
   | 0,_=>rfl
   | 1,_=>rfl
   | 2,_=>rfl
   | 3,_=>rfl
   | 4,_=>rfl
   | 5,_=>rfl
   | 6,_=>rfl
   | 7,_=>rfl
   | 8,_=>rfl
   | 9,_=>rfl
   | 10,_=>rfl
   | 11,_=>rfl
   | 12,_=>rfl
   | 13,_=>rfl
  clear hA;go_wp2_with fail;go_loopw [4] (λv wr=>∃k m:Nat,v=.int .i64 (k:Nat)/\k<=14/\(∀ j,j<k->sgA j≠(s[0]'h0).toNat)/\wr=w.drewN m) (λv _=>14-(Ih v).toNat)
  case atStart=>exact⟨0,0,by go_num,by omega,λj h=>by omega,rfl⟩
  case round =>
   obtain⟨k,m,rfl,hk,hin,rfl⟩:=hrel;by_cases hlt:k<14
   ·have hkI:(k:Int)<14:=by omega
    have hkA:k<A.size:=by omega
    have hak:=HAA.out k hkA;by_cases he:sgA k=(s[0]'h0).toNat
    ·have hRR:R=s.extract 0 1:=by
      rcases HR.out with ⟨_,h⟩|⟨h,_⟩
      ·exact h
      ·exact absurd he (h k hlt)
     have HRR:=Hg hRR;rw[he] at hak;clear hRR hin he;go_wp2
     go_quiet (fail)
     go_wp2;go_ret;exact⟨by rw[HRR.out];rfl,bdr (b0 _) _⟩
    ·have hakI:((A[k]'hkA).toNat:Int)≠((s[0]'h0).toNat:Int):=by omega
     have hakB:(((A[k]'hkA).toNat:Int)==((s[0]'h0).toNat:Int))=false:=by simpa using hakI
     have hakB2:((A[k]'hkA).toNat==(s[0]'h0).toNat)=false:=by simp;omega
     have RL:∀ j,j<k+1->sgA j≠(s[0]'h0).toNat:=λj h=>by
      by_cases e:j=k
      ·subst e;exact he
      ·exact hin j (by omega)
     clear hin he hak;go_wp2
     go_quiet (fail)
     rename_i nq
     go_wp2;go_roundw
     case rel=>(try ((repeat apply Hv);refine⟨?_,rfl⟩));exact⟨k+1,m+nq,by go_num,by omega,RL,by first|trivial|rw[World.drewN_drewN] | simp⟩
     case measure=>simp[Ih];omega
   ·obtain rfl:k=14:=by omega
    have hRR:R=⟨#[]⟩:=by
     rcases HR.out with ⟨⟨i,h1,h2⟩,_⟩|⟨_,h⟩
     ·exact absurd h2 (hin i h1)
     ·exact h
    have HRR:=Hg hRR;clear hRR hin;go_wp2;go_ret;exact⟨by rw[HRR.out];rfl,bdr (b0 _) _⟩
 ·have h1I:(1:Int)<(s.size:Int):=by omega
  have h2I:(2:Int)<=(s.size:Int):=by omega
  have x1:((s.extract 0 2).toList==[33,61])=false:=beq_eq_false_iff_ne.2 hx1;have x2:((s.extract 0 2).toList==[60,61])=false:=beq_eq_false_iff_ne.2 hx2;go_enter Tryz.func102,Tryz.ntmps102;go_upto_region 4 with fail;obtain⟨A,hA⟩:∃A:ByteArray,A=⟨#[40,41,123,125,44,58,64,43,45,42,47,37,61,60]⟩:=⟨_,rfl⟩;rw[<-hA];have hAs:A.size=14:=by rw[hA];rfl
  have HAA:Hid (∀ i (h:i<A.size),(A[i]).toNat=sgA i):=by
   intro i h;subst hA
   match i,h with
   | 0,_=>rfl
   | 1,_=>rfl
   | 2,_=>rfl
   | 3,_=>rfl
   | 4,_=>rfl
   | 5,_=>rfl
   | 6,_=>rfl
   | 7,_=>rfl
   | 8,_=>rfl
   | 9,_=>rfl
   | 10,_=>rfl
   | 11,_=>rfl
   | 12,_=>rfl
   | 13,_=>rfl
  clear hA;go_wp2_with fail;go_loopw [4] (λv wr=>∃k m:Nat,v=.int .i64 (k:Nat)/\k<=14/\(∀ j,j<k->sgA j≠(s[0]'h0).toNat)/\wr=w.drewN m) (λv _=>14-(Ih v).toNat)
  case atStart=>exact⟨0,0,by go_num,by omega,λj h=>by omega,rfl⟩
  case round =>
   obtain⟨k,m,rfl,hk,hin,rfl⟩:=hrel;by_cases hlt:k<14
   ·have hkI:(k:Int)<14:=by omega
    have hkA:k<A.size:=by omega
    have hak:=HAA.out k hkA;by_cases he:sgA k=(s[0]'h0).toNat
    ·have hRR:R=s.extract 0 1:=by
      rcases HR.out with ⟨_,h⟩|⟨h,_⟩
      ·exact h
      ·exact absurd he (h k hlt)
     have HRR:=Hg hRR;rw[he] at hak;clear hRR hin he;go_wp2
     go_quiet (fail)
     go_wp2;go_ret;exact⟨by rw[HRR.out];rfl,bdr (b0 _) _⟩
    ·have hakI:((A[k]'hkA).toNat:Int)≠((s[0]'h0).toNat:Int):=by omega
     have hakB:(((A[k]'hkA).toNat:Int)==((s[0]'h0).toNat:Int))=false:=by simpa using hakI
     have hakB2:((A[k]'hkA).toNat==(s[0]'h0).toNat)=false:=by simp;omega
     have RL:∀ j,j<k+1->sgA j≠(s[0]'h0).toNat:=λj h=>by
      by_cases e:j=k
      ·subst e;exact he
      ·exact hin j (by omega)
     clear hin he hak;go_wp2
     go_quiet (fail)
     rename_i nq
     go_wp2;go_roundw
     case rel=>(try ((repeat apply Hv);refine⟨?_,rfl⟩));exact⟨k+1,m+nq,by go_num,by omega,RL,by first|trivial|rw[World.drewN_drewN] | simp⟩
     case measure=>simp[Ih];omega
   ·obtain rfl:k=14:=by omega
    have hRR:R=⟨#[]⟩:=by
     rcases HR.out with ⟨⟨i,h1,h2⟩,_⟩|⟨_,h⟩
     ·exact absurd h2 (hin i h1)
     ·exact h
    have HRR:=Hg hRR;clear hRR hin;go_wp2;go_ret;exact⟨by rw[HRR.out];rfl,bdr (b0 _) _⟩
theorem tL (s:ByteArray)(h:1<s.size):(s.extract 0 2).data.toList=[s[0],s[1]]:=by
 rw[AD];have hl:=fk s;have e:s.data.toList.take 2=[s.data.toList[0]'(by omega),s.data.toList[1]'(by omega)]:=by
  rw[List.take_add_one,List.take_add_one,List.take_zero,Hd (by omega),Hd (by omega)];rfl
 rw[e,fd s 0 (by omega),fd s 1 h]
theorem xZ (s:ByteArray)(h:0<s.size):s.data.toList=s[0]::s.data.toList.drop 1:=by
 have hl:=fk s
 have:=mD s.data.toList 0 (by omega)
 rw[List.drop_zero,fd s 0 h] at this;exact this
theorem FS (s:ByteArray)(w:G9)(h0:0<s.size)(hs:s.size<=2000) :
  Hn G5 102 #[.string s] w λe w'=>e=.returned (.string ⟨(iY s.data.toList).toArray⟩)/\Hf w.heap.size w w':=by
 have hl:=fk s;have hcl:=xZ s h0;by_cases h2:1<s.size/\((s[0]'h0).toNat=33\/(s[0]'h0).toNat=60)/\(s.data.toList.drop 1).head?=G1 61
 ·obtain⟨h1,h3,h4⟩:=h2;have hu:iY s.data.toList=[s[0],61]:=by
   rw[hcl];unfold iY;simp only;rw[if_pos ⟨h3,h4⟩]
  have h5:s[1]'h1=61:=by
   rw[List.head?_drop,Hd (by omega),fd s 1 h1] at h4;injection h4
  have htl:=tL s h1;rw[h5] at htl;have hR:s.extract 0 2=⟨(iY s.data.toList).toArray⟩:=by
   rw[hu,<-htl,pT]
  have HR:=Hg hR;have h1I:(1:Int)<(s.size:Int):=by omega
  have h2I:(2:Int)<=(s.size:Int):=by omega
  rcases h3 with h3|h3
  ·have hc:s[0]'h0=33:=Jv h3;rw[hc] at htl;have hA:(s.extract 0 2).toList=[33,61]:=by rw[Jl];exact htl
   clear hcl hu hR htl hl hc h3 h4 h5;go_enter Tryz.func102,Tryz.ntmps102;go_wp2;go_ret;exact⟨by rw[<-HR.out];rfl,b0 _⟩
  ·have hc:s[0]'h0=60:=Jv h3;rw[hc] at htl;have hA:(s.extract 0 2).toList=[60,61]:=by rw[Jl];exact htl
   clear hcl hu hR htl hl hc h3 h4 h5;go_enter Tryz.func102,Tryz.ntmps102;go_wp2;go_ret;exact⟨by rw[<-HR.out];rfl,b0 _⟩
 ·refine yT s w h0 hs ?_ _ ?_
  ·by_cases h1:1<s.size
   ·right
    have htl:=tL s h1;have hh:(s.data.toList.drop 1).head?=G1 s[1]:=by rw[List.head?_drop,Hd (by omega),fd s 1 h1]
    refine⟨h1,?_,?_⟩
    ·intro e;rw[Jl,htl] at e;injection e with e1 e2
     injection e2 with e2 _
     exact h2 ⟨h1,.inl (by rw[e1];rfl),by rw[hh,e2]⟩
    ·intro e;rw[Jl,htl] at e;injection e with e1 e2
     injection e2 with e2 _
     exact h2 ⟨h1,.inr (by rw[e1];rfl),by rw[hh,e2]⟩
   ·left
    omega
  ·have hu:iY s.data.toList=if sgn (s[0]'h0).toNat=true/\(s[0]'h0).toNat≠33 then [s[0]] else []:=by
    rw[hcl];unfold iY;simp only;rw[if_neg];rintro ⟨h3,h4⟩;refine h2 ⟨?_,h3,h4⟩;rw[List.head?_drop] at h4;by_cases h1:1<s.size
    ·exact h1
    ·rw[Ie (by omega)] at h4;cases h4
   by_cases h3:sgn (s[0]'h0).toNat=true/\(s[0]'h0).toNat≠33
   ·left
    rw[hu,if_pos h3];refine⟨(wF _).1 h3,?_⟩;rw[uR,hcl];rfl
   ·right
    rw[hu,if_neg h3];refine⟨λi hi e=>h3 ((wF _).2 ⟨i,hi,e⟩),rfl⟩
def fU (l:List UInt8)(at0:Nat)(e:Ja):Prop :=
 (∃er:Nat,e=.returned (.tuple #[.agg #[.int .i64 0,.int .i64 0,.string ⟨#[]⟩,.int .i64 0],.int .i64 0,.int .i64 (er:Nat)])/\fg 0 [] at0 at0 (l.drop at0)=.inl (er,at0)/\er≠0) \/
 (∃(x:Tk) (nx:Nat),e=.returned (.tuple #[.agg (tka x),.int .i64 (nx:Nat),.int .i64 0])/\at0<nx/\nx<=l.length/\fg 0 [] at0 at0 (l.drop at0)=mh x (fg 0 [] nx nx (l.drop nx)))
theorem gK {fn:Func}{p u v:Tmp}(h:fn.results=#[.cell p 67,.tmp u,.tmp v])(tmps:Array He)(w:G9)(g:Nat)(v0 v1 v2 v3:He)(t:Il)(fr:Nat × Nat)
  (hp:tmps.getD p undef=.pointer (G1 ⟨g,0,G0⟩)) (hg:w.heap[g]?=G1 (.cells #[v0,v1,v2,v3] t fr)) :
  (Hk fn tmps).run G5 w=.ok (.tuple #[.agg #[v0,v1,v2,v3],tmps.getD u undef,tmps.getD v undef]) w:=by
 have hl:=run_loadVar_row (P:=G5) w g t 67 #[v0,v1,v2,v3] fr _ hg Tryz.underlying67 rfl (by kernel_rfl);have hp':tmps[p]?.getD undef=.pointer (G1 ⟨g,0,G0⟩):=by simpa using hp
 simp[Hk,h,hp',asAddr,hl,Result.andThen]
theorem rv {w w1:G9}{A:Obj}(h:Hf (w.alloc A).heap.size (w.alloc A) w1):w1.heap[w.heap.size]?=G1 A/\Hf w.heap.size w w1:=by
 refine⟨?_,(b1 _ _).trans (h.mono (by simp))⟩;rw[h.block _ (by simp)];exact Hc _ _
theorem nV (s:ByteArray)(at0 e:Nat)(h0:at0<e)(h1:e<=s.size):(s.extract at0 e).data.toList=(s.data.toList.drop at0).take (e-at0)/\(s.extract at0 e).size=e-at0:=by
 refine⟨mJ s at0 e,?_⟩;rw[<-fk,mJ];exact vU _ _ _ h0 (by rw[fk];exact h1)
theorem Bm (l:List UInt8)(at0 e:Nat)(h1:e<=l.length)(hin:∀ j (h:j<l.length),at0<=j->j<e->tks 2 [] (l[j]).toNat=true):uW ((l.drop at0).take (e-at0)):=by
 intro c hc;obtain⟨j,hj,rfl⟩:=List.mem_iff_getElem.1 hc;have hj':j<e-at0:=by simp at hj;omega
 rw[List.getElem_take,List.getElem_drop];have hjl:at0+j<l.length:=by omega
 have:=hin (at0+j) hjl (by omega) (by omega)
 simpa [tks,dig] using this
theorem Df {r:Nat}(h1:blk r=false)(h3:dig r=true):cls r=2:=by
 have h2:ltr r=false:=by
  simp[dig] at h3;simp[ltr,sml];omega
 simp[cls,h1,h2,h3]
theorem xg {r:Nat}(h1:blk r=false)(h2:ltr r=true):cls r=1:=by simp[cls,h1,h2]
theorem xw (s:ByteArray)(at0:Nat)(w:G9)(hat:at0<s.size)(hs:s.size<=2000)(hb:blk (s[at0]).toNat=false)(hd:dig (s[at0]).toNat=true) :
  Hn G5 50 #[.string s,.int .i64 (at0:Nat)] w λe w'=>fU s.data.toList at0 e/\Hf w.heap.size w w':=by
 have HL:Hid (s.data.toList.length=s.size):=fk s;have hb0:(s[at0]'hat).toNat<256:=IZ _;have hatI:(at0:Int)<(s.size:Int):=by omega
 have hal:at0<s.data.toList.length:=by rw[HL.out];exact hat
 have HC:Hid (cls (s.data.toList[at0]'hal).toNat=2):=by rw[fd s at0 hat hal];exact Df hb hd
 go_enter Tryz.func50,Tryz.ntmps50;go_wp2_with (first|(go_at_call 95;refine(jp _ _ hb0).mono ?_;rw[hd];rintro e w1 ⟨rfl,rfl⟩)|(go_at_call 96;refine(EB s at0 _ hat hs hd).mono ?_;rintro e w1 ⟨e0,rfl,hE,rfl⟩;refine Hid.out ?_));refine Hg ?_;obtain⟨h1,h2,h3,h4⟩:=hE;rw[HL.out] at h2;obtain⟨hx1,hx2⟩:=nV s at0 e0 h1 h2;have hsr:=n9 s.data.toList 2 at0 e0 (.inr rfl) h1 (by rw[HL.out];exact h2) HC.out h3 h4;have hdg:=Bm s.data.toList at0 e0 (by rw[HL.out];exact h2) h3;have HSR:=Hg hsr;have hI1:(at0:Int)<=(e0:Int):=by omega
 have hI2:(e0:Int)<=(s.size:Int):=by omega
 rw[<-hx1] at hdg;have HX:=Hg hx1;have hz1:0<(s.extract at0 e0).size:=by omega
 have hz2:(s.extract at0 e0).size<=2000:=by omega
 clear hsr h3 h4 hx1 hx2;go_wp2_with (go_at_call 97;refine(y5 _ _ hz1 hz2 hdg).mono ?_;rintro e w2 ⟨⟨v,b,rfl,ho⟩,rfl⟩;refine Hid.out ?_);refine Hg ?_;rw[HX.out] at ho;clear hdg hz1 hz2;rcases ho with ⟨rfl,hn⟩|⟨rfl,rfl,hn⟩
 ·have HP:Hid (fU s.data.toList at0 (.returned (.tuple #[.agg #[.int .i64 1,.int .i64 v,.string ⟨#[]⟩,.int .i64 (at0:Nat)],.int .i64 (e0:Nat),.int .i64 0]))):=by
   refine .inr ⟨⟨1,v,[],at0⟩,e0,rfl,h1,by rw[HL.out];exact h2,?_⟩;rw[HSR.out];unfold ge;rw[if_neg (by omega)];show (match kL _ at0 with | .inl e=>_ | .inr x=>_)=_;rw[hn at0]
  clear hn;go_wp2;refine Hb (gK rfl _ _ w.heap.size _ _ _ _ _ _ rfl (Hc _ _)) rfl ?_;exact⟨HP.out,b1 _ _⟩
 ·have HP:Hid (fU s.data.toList at0 (.returned (.tuple #[.agg #[.int .i64 0,.int .i64 0,.string ⟨#[]⟩,.int .i64 0],.int .i64 0,.int .i64 111]))):=by
   refine .inl ⟨111,rfl,?_,by omega⟩;rw[HSR.out];unfold ge;rw[if_neg (by omega)];show (match kL _ at0 with | .inl e=>_ | .inr x=>_)=_;rw[hn at0]
  clear hn;go_wp2;refine Hb (gK rfl _ _ w.heap.size _ _ _ _ _ _ rfl (Hc _ _)) rfl ?_;exact⟨HP.out,b1 _ _⟩
theorem sO (s:ByteArray)(at0:Nat)(w:G9)(hat:at0<s.size)(hs:s.size<=2000)(hb:blk (s[at0]).toNat=false)(hd:dig (s[at0]).toNat=false)(hsm:sml (s[at0]).toNat=true) :
  Hn G5 50 #[.string s,.int .i64 (at0:Nat)] w λe w'=>fU s.data.toList at0 e/\Hf w.heap.size w w':=by
 have HL:Hid (s.data.toList.length=s.size):=fk s;have hb0:(s[at0]'hat).toNat<256:=IZ _;have hatI:(at0:Int)<(s.size:Int):=by omega
 have hal:at0<s.data.toList.length:=by rw[HL.out];exact hat
 have hl:ltr (s[at0]'hat).toNat=true:=by simp[ltr,hsm]
 have HC:Hid (cls (s.data.toList[at0]'hal).toNat=1):=by rw[fd s at0 hat hal];exact xg hb hl
 go_enter Tryz.func50,Tryz.ntmps50;go_wp2_with (first|(go_at_call 95;refine(jp _ _ hb0).mono ?_;rw[hd];rintro e w1 ⟨rfl,rfl⟩)|(go_at_call 98;refine(jl _ _ hb0).mono ?_;rw[hsm];rintro e w1 ⟨rfl,rfl⟩)|(go_at_call 96;refine(AI s at0 _ hat hs hd hl).mono ?_;rintro e w1 ⟨e0,rfl,hE,rfl⟩;refine Hid.out ?_));refine Hg ?_;obtain⟨h1,h2,h3,h4⟩:=hE;rw[HL.out] at h2;obtain⟨hx1,hx2⟩:=nV s at0 e0 h1 h2;have hsr:=n9 s.data.toList 1 at0 e0 (.inl rfl) h1 (by rw[HL.out];exact h2) HC.out h3 h4;have HSR:=Hg hsr;have hI1:(at0:Int)<=(e0:Int):=by omega
 have hI2:(e0:Int)<=(s.size:Int):=by omega
 have HX:=Hg hx1;have hz2:(s.extract at0 e0).size<=Hu:=by unfold Hu;omega
 clear hsr h3 h4 hx1 hx2;go_wp2_with (go_at_call 100;refine(uE _ _ hz2).mono ?_;rw[HX.out];rintro e w2 ⟨rfl,hb2⟩;refine Hid.out ?_);refine Hg ?_;obtain⟨k2,B2⟩:=rv hb2;clear hb2;have HY:Hid (∀ x,jA ((s.data.toList.drop at0).take (e0-at0)) at0=.inr x->fg 0 [] at0 at0 (s.data.toList.drop at0)=mh x (fg 0 [] e0 e0 (s.data.toList.drop e0))):=λx h=>by
  rw[HSR.out];unfold ge;rw[if_neg (by omega)];show (match jA _ at0 with | .inl e=>_ | .inr x=>_)=_;rw[h]
 have HN:Hid (∀ e,jA ((s.data.toList.drop at0).take (e0-at0)) at0=.inl e->fg 0 [] at0 at0 (s.data.toList.drop at0)=.inl (e,at0)):=λx h=>by
  rw[HSR.out];unfold ge;rw[if_neg (by omega)];show (match jA _ at0 with | .inl e=>_ | .inr x=>_)=_;rw[h]
 have hbt:(⟨((s.data.toList.drop at0).take (e0-at0)).toArray⟩:ByteArray)=s.extract at0 e0:=(uR s at0 e0).symm;cases hw:iF ((s.data.toList.drop at0).take (e0-at0))
 ·have hn0:B2=B2:=rfl;have hk2:=Hg k2;go_wp2_with (go_at_call 101;refine(q9 _ _ hz2).mono ?_;rw[HX.out];rintro e w3 ⟨rfl,hb3⟩;refine Hid.out ?_);refine Hg ?_;have k3:w3.heap[w.heap.size]?=G1 (.cells #[.int .i64 0,.int .i64 0,.string ⟨#[]⟩,.int .i64 0] 67 (0,0)):=by
   rw[hb3.block _ (Ha hk2.out)];exact hk2.out
  have B3:=B2.trans (hb3.mono B2.size);clear hb3 k2 hk2 B2 hn0;have c0:w3.cell? ⟨w.heap.size,0,G0⟩=G1 (.int .i64 0):=by rw[If _ _ _ _ _ _ k3];rfl
  have c1:w3.cell? ⟨w.heap.size,1,G0⟩=G1 (.int .i64 0):=by rw[If _ _ _ _ _ _ k3];rfl
  have c2:w3.cell? ⟨w.heap.size,2,G0⟩=G1 (.string ⟨#[]⟩):=by rw[If _ _ _ _ _ _ k3];rfl
  have c3:w3.cell? ⟨w.heap.size,3,G0⟩=G1 (.int .i64 0):=by rw[If _ _ _ _ _ _ k3];rfl
  have fz:∀ j,w3.frozen? ⟨w.heap.size,j,G0⟩=false:=λj=>IK w3 _ j _ _ k3;have HK2:=Hg k3;clear k3;cases hn:eH ((s.data.toList.drop at0).take (e0-at0))
  ·have HP:Hid (fU s.data.toList at0 (.returned (.tuple #[.agg #[.int .i64 0,.int .i64 0,.string ⟨#[]⟩,.int .i64 0],.int .i64 0,.int .i64 112]))):=by
    refine .inl ⟨112,rfl,HN.out 112 ?_,by omega⟩;unfold jA;rw[hw,hn];rfl
   clear hw hn hbt;go_wp2;refine Hb (gK rfl _ _ w.heap.size _ _ _ _ _ _ rfl (tu _ _ _ _ HK2.out)) rfl ?_;exact⟨HP.out,ny _ _ _ _ B3 (by omega)⟩
  ·have HP:Hid (fU s.data.toList at0 (.returned (.tuple #[.agg #[.int .i64 2,.int .i64 0,.string (s.extract at0 e0),.int .i64 (at0:Nat)],.int .i64 (e0:Nat),.int .i64 0]))):=by
    refine .inr ⟨⟨2,0,(s.data.toList.drop at0).take (e0-at0),at0⟩,e0,by simp only[tka,hbt];rfl,h1,by rw[HL.out];exact h2,HY.out _ ?_⟩;unfold jA;rw[hw,hn];rfl
   clear hw hn hbt;go_wp2;refine Hb (gK rfl _ _ w.heap.size _ _ _ _ _ _ rfl (tu _ _ _ _ HK2.out)) rfl ?_;exact⟨HP.out,ny _ _ _ _ B3 (by omega)⟩
 ·have HP:Hid (fU s.data.toList at0 (.returned (.tuple #[.agg #[.int .i64 3,.int .i64 0,.string (s.extract at0 e0),.int .i64 (at0:Nat)],.int .i64 (e0:Nat),.int .i64 0]))):=by
   refine .inr ⟨⟨3,0,(s.data.toList.drop at0).take (e0-at0),at0⟩,e0,by simp only[tka,hbt];rfl,h1,by rw[HL.out];exact h2,HY.out _ ?_⟩;unfold jA;rw[hw];rfl
  have c0:w2.cell? ⟨w.heap.size,0,G0⟩=G1 (.int .i64 0):=by rw[If _ _ _ _ _ _ k2];rfl
  have c1:w2.cell? ⟨w.heap.size,1,G0⟩=G1 (.int .i64 0):=by rw[If _ _ _ _ _ _ k2];rfl
  have c2:w2.cell? ⟨w.heap.size,2,G0⟩=G1 (.string ⟨#[]⟩):=by rw[If _ _ _ _ _ _ k2];rfl
  have c3:w2.cell? ⟨w.heap.size,3,G0⟩=G1 (.int .i64 0):=by rw[If _ _ _ _ _ _ k2];rfl
  have fz:∀ j,w2.frozen? ⟨w.heap.size,j,G0⟩=false:=λj=>IK w2 _ j _ _ k2;have HK2:=Hg k2;clear k2;clear hw hbt;go_wp2;refine Hb (gK rfl _ _ w.heap.size _ _ _ _ _ _ rfl (tu _ _ _ _ HK2.out)) rfl ?_;exact⟨HP.out,ny _ _ _ _ B2 (by omega)⟩
theorem sZ (s:ByteArray)(at0:Nat)(w:G9)(hat:at0<s.size)(hs:s.size<=2000)(hb:blk (s[at0]).toNat=false)(hd:dig (s[at0]).toNat=false)(hsm:sml (s[at0]).toNat=false)(hgr:grt (s[at0]).toNat=true) :
  Hn G5 50 #[.string s,.int .i64 (at0:Nat)] w λe w'=>fU s.data.toList at0 e/\Hf w.heap.size w w':=by
 have HL:Hid (s.data.toList.length=s.size):=fk s;have hb0:(s[at0]'hat).toNat<256:=IZ _;have hatI:(at0:Int)<(s.size:Int):=by omega
 have hal:at0<s.data.toList.length:=by rw[HL.out];exact hat
 have hl:ltr (s[at0]'hat).toNat=true:=by rw[mo,hsm,hgr];rfl
 have HC:Hid (cls (s.data.toList[at0]'hal).toNat=1):=by rw[fd s at0 hat hal];exact xg hb hl
 go_enter Tryz.func50,Tryz.ntmps50;go_wp2_with (first|(go_at_call 95;refine(jp _ _ hb0).mono ?_;rw[hd];rintro e w1 ⟨rfl,rfl⟩)|(go_at_call 98;refine(jl _ _ hb0).mono ?_;rw[hsm];rintro e w1 ⟨rfl,rfl⟩)|(go_at_call 99;refine(pX _ _ hb0).mono ?_;rw[hgr];rintro e w1 ⟨rfl,rfl⟩)|(go_at_call 96;refine(AI s at0 _ hat hs hd hl).mono ?_;rintro e w1 ⟨e0,rfl,hE,rfl⟩;refine Hid.out ?_));refine Hg ?_;obtain⟨h1,h2,h3,h4⟩:=hE;rw[HL.out] at h2;obtain⟨hx1,hx2⟩:=nV s at0 e0 h1 h2;have hsr:=n9 s.data.toList 1 at0 e0 (.inl rfl) h1 (by rw[HL.out];exact h2) HC.out h3 h4;have HSR:=Hg hsr;have hI1:(at0:Int)<=(e0:Int):=by omega
 have hI2:(e0:Int)<=(s.size:Int):=by omega
 have HX:=Hg hx1;have hz2:(s.extract at0 e0).size<=Hu:=by unfold Hu;omega
 clear hsr h3 h4 hx1 hx2;go_wp2_with (go_at_call 100;refine(uE _ _ hz2).mono ?_;rw[HX.out];rintro e w2 ⟨rfl,hb2⟩;refine Hid.out ?_);refine Hg ?_;obtain⟨k2,B2⟩:=rv hb2;clear hb2;have HY:Hid (∀ x,jA ((s.data.toList.drop at0).take (e0-at0)) at0=.inr x->fg 0 [] at0 at0 (s.data.toList.drop at0)=mh x (fg 0 [] e0 e0 (s.data.toList.drop e0))):=λx h=>by
  rw[HSR.out];unfold ge;rw[if_neg (by omega)];show (match jA _ at0 with | .inl e=>_ | .inr x=>_)=_;rw[h]
 have HN:Hid (∀ e,jA ((s.data.toList.drop at0).take (e0-at0)) at0=.inl e->fg 0 [] at0 at0 (s.data.toList.drop at0)=.inl (e,at0)):=λx h=>by
  rw[HSR.out];unfold ge;rw[if_neg (by omega)];show (match jA _ at0 with | .inl e=>_ | .inr x=>_)=_;rw[h]
 have hbt:(⟨((s.data.toList.drop at0).take (e0-at0)).toArray⟩:ByteArray)=s.extract at0 e0:=(uR s at0 e0).symm;cases hw:iF ((s.data.toList.drop at0).take (e0-at0))
 ·have hn0:B2=B2:=rfl;have hk2:=Hg k2;go_wp2_with (go_at_call 101;refine(q9 _ _ hz2).mono ?_;rw[HX.out];rintro e w3 ⟨rfl,hb3⟩;refine Hid.out ?_);refine Hg ?_;have k3:w3.heap[w.heap.size]?=G1 (.cells #[.int .i64 0,.int .i64 0,.string ⟨#[]⟩,.int .i64 0] 67 (0,0)):=by
   rw[hb3.block _ (Ha hk2.out)];exact hk2.out
  have B3:=B2.trans (hb3.mono B2.size);clear hb3 k2 hk2 B2 hn0;have c0:w3.cell? ⟨w.heap.size,0,G0⟩=G1 (.int .i64 0):=by rw[If _ _ _ _ _ _ k3];rfl
  have c1:w3.cell? ⟨w.heap.size,1,G0⟩=G1 (.int .i64 0):=by rw[If _ _ _ _ _ _ k3];rfl
  have c2:w3.cell? ⟨w.heap.size,2,G0⟩=G1 (.string ⟨#[]⟩):=by rw[If _ _ _ _ _ _ k3];rfl
  have c3:w3.cell? ⟨w.heap.size,3,G0⟩=G1 (.int .i64 0):=by rw[If _ _ _ _ _ _ k3];rfl
  have fz:∀ j,w3.frozen? ⟨w.heap.size,j,G0⟩=false:=λj=>IK w3 _ j _ _ k3;have HK2:=Hg k3;clear k3;cases hn:eH ((s.data.toList.drop at0).take (e0-at0))
  ·have HP:Hid (fU s.data.toList at0 (.returned (.tuple #[.agg #[.int .i64 0,.int .i64 0,.string ⟨#[]⟩,.int .i64 0],.int .i64 0,.int .i64 112]))):=by
    refine .inl ⟨112,rfl,HN.out 112 ?_,by omega⟩;unfold jA;rw[hw,hn];rfl
   clear hw hn hbt;go_wp2;refine Hb (gK rfl _ _ w.heap.size _ _ _ _ _ _ rfl (tu _ _ _ _ HK2.out)) rfl ?_;exact⟨HP.out,ny _ _ _ _ B3 (by omega)⟩
  ·have HP:Hid (fU s.data.toList at0 (.returned (.tuple #[.agg #[.int .i64 2,.int .i64 0,.string (s.extract at0 e0),.int .i64 (at0:Nat)],.int .i64 (e0:Nat),.int .i64 0]))):=by
    refine .inr ⟨⟨2,0,(s.data.toList.drop at0).take (e0-at0),at0⟩,e0,by simp only[tka,hbt];rfl,h1,by rw[HL.out];exact h2,HY.out _ ?_⟩;unfold jA;rw[hw,hn];rfl
   clear hw hn hbt;go_wp2;refine Hb (gK rfl _ _ w.heap.size _ _ _ _ _ _ rfl (tu _ _ _ _ HK2.out)) rfl ?_;exact⟨HP.out,ny _ _ _ _ B3 (by omega)⟩
 ·have HP:Hid (fU s.data.toList at0 (.returned (.tuple #[.agg #[.int .i64 3,.int .i64 0,.string (s.extract at0 e0),.int .i64 (at0:Nat)],.int .i64 (e0:Nat),.int .i64 0]))):=by
   refine .inr ⟨⟨3,0,(s.data.toList.drop at0).take (e0-at0),at0⟩,e0,by simp only[tka,hbt];rfl,h1,by rw[HL.out];exact h2,HY.out _ ?_⟩;unfold jA;rw[hw];rfl
  have c0:w2.cell? ⟨w.heap.size,0,G0⟩=G1 (.int .i64 0):=by rw[If _ _ _ _ _ _ k2];rfl
  have c1:w2.cell? ⟨w.heap.size,1,G0⟩=G1 (.int .i64 0):=by rw[If _ _ _ _ _ _ k2];rfl
  have c2:w2.cell? ⟨w.heap.size,2,G0⟩=G1 (.string ⟨#[]⟩):=by rw[If _ _ _ _ _ _ k2];rfl
  have c3:w2.cell? ⟨w.heap.size,3,G0⟩=G1 (.int .i64 0):=by rw[If _ _ _ _ _ _ k2];rfl
  have fz:∀ j,w2.frozen? ⟨w.heap.size,j,G0⟩=false:=λj=>IK w2 _ j _ _ k2;have HK2:=Hg k2;clear k2;clear hw hbt;go_wp2;refine Hb (gK rfl _ _ w.heap.size _ _ _ _ _ _ rfl (tu _ _ _ _ HK2.out)) rfl ?_;exact⟨HP.out,ny _ _ _ _ B2 (by omega)⟩
theorem vt (s:ByteArray)(at0:Nat)(w:G9)(hat:at0<s.size)(hs:s.size<=2000)(hb:blk (s[at0]).toNat=false)(hd:dig (s[at0]).toNat=false)(hsm:sml (s[at0]).toNat=false)(hgr:grt (s[at0]).toNat=false) :
  Hn G5 50 #[.string s,.int .i64 (at0:Nat)] w λe w'=>fU s.data.toList at0 e/\Hf w.heap.size w w':=by
 have HL:Hid (s.data.toList.length=s.size):=fk s;have hb0:(s[at0]'hat).toNat<256:=IZ _;have hatI:(at0:Int)<(s.size:Int):=by omega
 have hatL:(at0:Int)<=(s.size:Int):=by omega
 have hal:at0<s.data.toList.length:=by rw[HL.out];exact hat
 have hl:ltr (s[at0]'hat).toNat=false:=by rw[mo,hsm,hgr];rfl
 have hda:=mD s.data.toList at0 hal;rw[fd s at0 hat hal] at hda;have hsr:=yA (s[at0]'hat) (s.data.toList.drop (at0+1)) at0 hb hl hd;rw[<-hda] at hsr;obtain⟨hx1,hx2⟩:=nV s at0 s.size hat (G4 _);rw[KG (by rw[List.length_drop,HL.out];exact G4 _)] at hx1;have HSR:=Hg hsr;have HX:=Hg hx1;have hz1:0<(s.extract at0 s.size).size:=by omega
 have hz2:(s.extract at0 s.size).size<=2000:=by omega
 clear hda hsr hx1 hx2 hl;go_enter Tryz.func50,Tryz.ntmps50;go_wp2_with (first|(go_at_call 95;refine(jp _ _ hb0).mono ?_;rw[hd];rintro e w1 ⟨rfl,rfl⟩)|(go_at_call 98;refine(jl _ _ hb0).mono ?_;rw[hsm];rintro e w1 ⟨rfl,rfl⟩)|(go_at_call 99;refine(pX _ _ hb0).mono ?_;rw[hgr];rintro e w1 ⟨rfl,rfl⟩)|(go_at_call 102;refine(FS _ _ hz1 hz2).mono ?_;rw[HX.out];rintro e w2 ⟨rfl,hb2⟩;refine Hid.out ?_));refine Hg ?_;obtain⟨k2,B2⟩:=rv hb2;clear hb2 hz1 hz2;have c0:w2.cell? ⟨w.heap.size,0,G0⟩=G1 (.int .i64 0):=by rw[If _ _ _ _ _ _ k2];rfl
 have c1:w2.cell? ⟨w.heap.size,1,G0⟩=G1 (.int .i64 0):=by rw[If _ _ _ _ _ _ k2];rfl
 have c2:w2.cell? ⟨w.heap.size,2,G0⟩=G1 (.string ⟨#[]⟩):=by rw[If _ _ _ _ _ _ k2];rfl
 have c3:w2.cell? ⟨w.heap.size,3,G0⟩=G1 (.int .i64 0):=by rw[If _ _ _ _ _ _ k2];rfl
 have fz:∀ j,w2.frozen? ⟨w.heap.size,j,G0⟩=false:=λj=>IK w2 _ j _ _ k2;have HK2:=Hg k2;clear k2;obtain⟨U,hU⟩:∃U:ByteArray,U=⟨(iY (s.data.toList.drop at0)).toArray⟩:=⟨_,rfl⟩;have hUs:U.size=(iY (s.data.toList.drop at0)).length:=by rw[hU,Du]
 rw[<-hU];rcases HSR.out with ⟨h1,h2⟩|⟨h1,h2,h3⟩
 ·have hU0:U=⟨#[]⟩:=by rw[hU,h1]
  have HP:Hid (fU s.data.toList at0 (.returned (.tuple #[.agg #[.int .i64 0,.int .i64 0,.string ⟨#[]⟩,.int .i64 0],.int .i64 0,.int .i64 110]))):=.inl ⟨110,rfl,h2,by omega⟩;clear hU hUs h1 h2;subst hU0;go_wp2;refine Hb (gK rfl _ _ w.heap.size _ _ _ _ _ _ rfl (tu _ _ _ _ HK2.out)) rfl ?_;exact⟨HP.out,ny _ _ _ _ B2 (by omega)⟩
 ·have hln:0<(iY (s.data.toList.drop at0)).length:=List.length_pos_iff.2 h1;have hdl:(s.data.toList.drop at0).length=s.size-at0:=by rw[List.length_drop,HL.out]
  have h4:at0+U.size<=s.size:=by omega
  have hne:U.toList.isEmpty=false:=oJ (by omega);have HP:Hid (fU s.data.toList at0 (.returned (.tuple #[.agg #[.int .i64 4,.int .i64 0,.string U,.int .i64 (at0:Nat)],.int .i64 ((at0:Int)+(U.size:Int)),.int .i64 0]))):=by
   refine .inr ⟨⟨4,0,iY (s.data.toList.drop at0),at0⟩,at0+U.size,?_,by omega,by rw[HL.out];exact h4,?_⟩
   ·simp only[tka,<-hU,Int.natCast_add];rfl
   ·rw[h3,<-hUs,List.drop_drop]
  have h4I:(at0:Int)+(U.size:Int)<=2000:=by omega
  clear hU hUs h1 h2 h3 hln hdl;go_wp2;refine Hb (gK rfl _ _ w.heap.size _ _ _ _ _ _ rfl (tu _ _ _ _ HK2.out)) rfl ?_;exact⟨HP.out,ny _ _ _ _ B2 (by omega)⟩
theorem Ds (s:ByteArray)(at0:Nat)(w:G9)(hat:at0<s.size)(hs:s.size<=2000)(hb:blk (s[at0]).toNat=false) :
  Hn G5 50 #[.string s,.int .i64 (at0:Nat)] w λe w'=>fU s.data.toList at0 e/\Hf w.heap.size w w':=by
 cases hd:dig (s[at0]'hat).toNat
 ·cases hsm:sml (s[at0]'hat).toNat
  ·cases hgr:grt (s[at0]'hat).toNat
   ·exact vt s at0 w hat hs hb hd hsm hgr
   ·exact sZ s at0 w hat hs hb hd hsm hgr
  ·exact sO s at0 w hat hs hb hd hsm
 ·exact xw s at0 w hat hs hb hd
abbrev I44:Nat->Prop:=λk=>k=4
theorem p7 {w wr:G9}{o:Nat->Nat}(h:as I44 w (λ_=>0) wr o):Hf w.heap.size w wr:=h.below (λ_ _ h=>by cases h)
structure RsQ (l:List UInt8)(w wr:G9)(o:Nat->Nat)(v:He)(q:Nat)(ts:List Tk):Prop where
 row:Row wr o 4 67 4 v ts.length (fD ts)
 len:ts.length<=q
 run:pc ts (fg 0 [] q q (l.drop q))=pJ l
 stp:as I44 w (λ_=>0) wr o
theorem Dv (s:ByteArray)(w:G9)(hs:s.size<=Hu) :
  Hn G5 27 #[.string s] w λe w'=>∃v er at0,e=.returned (.tuple #[v,.int .i64 er,.int .i64 at0])/\DQ w w' v er at0 (iE s.data.toList)/\Hf w.heap.size w w':=by
 unfold Hu at hs;have HL:Hid (s.data.toList.length=s.size):=fk s;by_cases hbig:2000<s.size
 ·have fin:iE s.data.toList=.inl (113,0):=by
   unfold iE;rw[HL.out,if_pos hbig]
  have hI:(2000:Int)<(s.size:Int):=by omega
  go_enter Tryz.func27,Tryz.ntmps27;go_wp2;go_ret3;exact⟨_,_,_,rfl,Jp ⟨113,0,fin,rfl,rfl,rfl⟩,b0 _⟩
 ·have HF:Hid (iE s.data.toList=pJ s.data.toList):=by
   show _=_;unfold iE;rw[HL.out,if_neg hbig]
  have hs2:s.size<=2000:=by omega
  have hI:¬(2000:Int)<(s.size:Int):=by omega
  obtain⟨ii,hii,hz0,hz1,hz2⟩:=eo ya;go_enter Tryz.func27,Tryz.ntmps27;go_wp2_with fail;go_loopw [5,6] (λv5 v6 wr=>∃q ts o,v6=.int .i64 (q:Nat)/\q<=s.size/\RsQ s.data.toList w wr o v5 q ts) (λ_ v6 _=>s.size-(Ih v6).toNat)
  case atStart=>exact⟨0,[],λ_=>0,by go_num,by omega,Row.nil _ _ _ _ _,by simp,rfl,as.refl _ _ _⟩
  case round =>
   obtain⟨q,ts,o,rfl,hq,J⟩:=hrel;have hB:=p7 J.stp;have hlen:=J.len;by_cases hlt:q<s.size
   ·have hqI:(q:Int)<(s.size:Int):=by omega
    have hql:q<s.data.toList.length:=by rw[HL.out];exact hlt
    have hbq:(s[q]'hlt).toNat<256:=IZ _;have hda:=mD s.data.toList q hql;rw[fd s q hlt hql] at hda;cases hb:blk (s[q]'hlt).toNat
    ·have HJ:=Hg J;clear J hda;go_wp2_with (first|(go_at_call 49;refine(Ef _ _ hbq).mono ?_;rw[hb];rintro e w1 ⟨rfl,rfl⟩)|(go_at_call 50;refine(Ds s q _ hlt hs2 hb).mono ?_;rintro e w2 ⟨⟨er,rfl,h1,h2⟩|⟨x,nx,rfl,h1,h2,h3⟩,hb2⟩<;>refine Hid.out ?_))
     ·refine Hg ?_;have her0:¬(er:Int)=0:=by omega
      have herb:((er:Int) != 0)=true:=by simpa using her0
      have fin:pJ s.data.toList=.inl (er,q):=by
       rw[<-HJ.out.run,h1,AZ]
      have HN:=Hg fin;clear fin h1;have hbw:=hB.trans (hb2.mono hB.size);go_wp2;go_ret3;exact⟨_,_,_,rfl,Jp ⟨er,q,HF.out.trans HN.out,rfl,rfl,rfl⟩,hbw.trans ((b1 _ _).mono hbw.size)⟩
     ·refine Hg ?_;obtain⟨xk,xn,xt,xa⟩:=x;rw[HL.out] at h2;have J:=HJ.out;have s2:as (λ_=>False) w1 o w2 o:=as.ofBelow o hb2;have R3':=(J.row.step s2 (by simp)).step ((gV (λ_=>False) w2 o (.cells #[.int .i64 (xk:Nat),.int .i64 xn,.string ⟨xt.toArray⟩,.int .i64 (xa:Nat)] 67)).alloc (.cells #[.int .i64 (xk:Nat),.int .i64 xn,.string ⟨xt.toArray⟩,.int .i64 (xa:Nat)] 67)) (by simp);have hps:ts.length<=2001:=by omega
      have HR:Hid (pc (ts++[⟨xk,xn,xt,xa⟩]) (fg 0 [] nx nx (s.data.toList.drop nx))=pJ s.data.toList):=by
       show _=_;rw[yQ,<-J.run,h3]
      clear J s2 h3;simp only[tka];go_wp2_with (first|(at_builtin;refine eb rfl (.tmp 34) (.tmp 36) 59 rfl 67 ii (.agg #[.int .i64 0,.int .i64 0,.string ⟨#[]⟩,.int .i64 0]) 4 40 Tryz.underlying59 hii hz0 hz1 hz2 rfl (by decide) o 4 _ ts.length (fD ts) rfl R3' ⟨w2.heap.size+1,0,G0⟩ 1 1 [.int .i64 (xk:Nat),.int .i64 xn,.string ⟨xt.toArray⟩,.int .i64 (xa:Nat)] rfl rfl ?c1 ?c2 (by decide) ?c3 ?c4 ?_)|go_in)
      case c1=>exact nz (by simp) _ _ _ _ _
      case c2=>intro u hu;simp at hu;rcases hu with rfl|rfl|rfl|rfl<;>rfl
      case c3=>unfold Hu;omega
      case c4=>omega
      intro g5 cap5 w5 o5 R5 s5';have J:=HJ.out;have s5:as (λk=>k=4) w1 o w5 o5:=(((as.ofBelow (I:=λk=>k=4) o hb2).alloc _).alloc _).trans s5';have RR:Row w5 o5 4 67 4 (.slice (G1 ⟨g5,0,G0⟩) (ts.length+1) cap5) (ts++[Tk.mk xk xn xt xa]).length (fD (ts++[Tk.mk xk xn xt xa])):=by
       rw[nj,Hx];exact R5
      have JN:RsQ s.data.toList w w5 o5 (.slice (G1 ⟨g5,0,G0⟩) (ts.length+1) cap5) nx (ts++[Tk.mk xk xn xt xa]):=⟨RR,by simp;omega,HR.out,J.stp.trans s5⟩;have HN:=Hg JN;clear R3' R5 s5' RR J s5 JN;go_wp2;go_roundw
      case rel=>(try ((repeat apply Hv);refine⟨?_,rfl⟩));exact⟨nx,_,o5,by go_num,by omega,HN.out⟩
      case measure=>simp[Ih];omega
    ·have JN:RsQ s.data.toList w wr o u5 (q+1) ts:=by
      refine⟨J.row,by omega,?_,J.stp⟩;have h1:=J.run;rw[hda,fY (k:=0) (by exact hb),lU _ [] _ (q+1)] at h1;exact h1
     have HN:=Hg JN;clear J JN hda;go_wp2_with (go_at_call 49;refine(Ef _ _ hbq).mono ?_;rw[hb];rintro e w1 ⟨rfl,rfl⟩);go_roundw
     case rel=>(try ((repeat apply Hv);refine⟨?_,rfl⟩));exact⟨q+1,ts,o,by go_num,by omega,HN.out⟩
     case measure=>simp[Ih];omega
   ·obtain rfl:q=s.size:=by omega
    have hps:ts.length<=2001:=by omega
    have HJ:=Hg J;have R3':=J.row.step (gV (λ_=>False) wr o (.cells #[.int .i64 0,.int .i64 0,.string ⟨#[]⟩,.int .i64 (s.size:Nat)] 67)) (by simp);clear J;go_wp2_with (first|(at_builtin;refine eb rfl (.tmp 39) (.tmp 43) 59 rfl 67 ii (.agg #[.int .i64 0,.int .i64 0,.string ⟨#[]⟩,.int .i64 0]) 4 40 Tryz.underlying59 hii hz0 hz1 hz2 rfl (by decide) o 4 _ ts.length (fD ts) rfl R3' ⟨wr.heap.size,0,G0⟩ 1 1 [.int .i64 0,.int .i64 0,.string ⟨#[]⟩,.int .i64 (s.size:Nat)] rfl rfl ?d1 ?d2 (by decide) ?d3 ?d4 ?_)|go_in)
    case d1=>exact nz (by simp) _ _ _ _ _
    case d2=>intro u hu;simp at hu;rcases hu with rfl|rfl|rfl|rfl<;>rfl
    case d3=>unfold Hu;omega
    case d4=>omega
    intro g5 cap5 w5 o5 R5 s5';have J:=HJ.out;have s5:as (λk=>k=4) wr o w5 o5:=(gV _ wr o _).trans s5';have S5:=J.stp.trans s5;have RN:pJ s.data.toList=.inr (ts++[⟨0,0,[],s.size⟩]):=by
     have:=J.run
     rw[List.drop_of_length_le (by rw[HL.out];exact G4 _)] at this;rw[<-this];exact AA _ _
    have RR:Row w5 o5 4 67 4 (.slice (G1 ⟨g5,0,G0⟩) (ts.length+1) cap5) (ts++[Tk.mk 0 0 [] s.size]).length (fD (ts++[Tk.mk 0 0 [] s.size])):=by
     rw[nj,Hx];exact R5
    have OR:=RR.fresh S5;have hbe:=p7 S5;have HN:=Hg RN;clear R3' R5 s5' RR J s5 RN S5;go_wp2;go_ret3;exact⟨_,_,_,rfl,Or.inr ⟨_,HF.out.trans HN.out,rfl,rfl,OR⟩,hbe⟩
theorem BY (w:G9)(k:Nat):w.drew.heap[k]?=w.heap[k]?:=rfl
theorem yX {wx:G9}{bq er a:Nat}(hw:wx.heap[bq]?=G1 (.cells #[.int .i64 (er:Nat),.int .i64 (a:Nat)] 113)):wx.cell? ⟨bq,0,G0⟩=G1 (.int .i64 (er:Nat))/\wx.cell? ⟨bq,1,G0⟩=G1 (.int .i64 (a:Nat)):=by
 obtain⟨y0,y1,-⟩:=Blk.cells2 (o:=λ_=>0) (i:=0) ⟨hw,rfl⟩;exact⟨y0,y1⟩
section
variable {w w1:G9}{B bq er a:Nat}{v0 v1 v2 v3 v4 ve va:He}
theorem cf7 (R1:w1.heap[bq]?=G1 (.cells #[.int .i64 (er:Nat),.int .i64 (a:Nat)] 113))(hB:B+2<bq):((Ht (Ht (Ht (Ht (Ht (Ht (Ht w1 ⟨B,0,G0⟩ (.int .i64 0)) ⟨B,1,G0⟩ (.int .i64 0)) ⟨B,2,G0⟩ (.string ⟨#[]⟩)) ⟨B,3,G0⟩ (.slice G0 0 0)) ⟨B,4,G0⟩ (.int .i64 0)) ⟨B+1,0,G0⟩ (.int .i64 (er:Nat))) ⟨B+2,0,G0⟩ (.int .i64 (a:Nat)))).drew.cell? ⟨bq,0,G0⟩=G1 (.int .i64 (er:Nat))/\((Ht (Ht (Ht (Ht (Ht (Ht (Ht w1 ⟨B,0,G0⟩ (.int .i64 0)) ⟨B,1,G0⟩ (.int .i64 0)) ⟨B,2,G0⟩ (.string ⟨#[]⟩)) ⟨B,3,G0⟩ (.slice G0 0 0)) ⟨B,4,G0⟩ (.int .i64 0)) ⟨B+1,0,G0⟩ (.int .i64 (er:Nat))) ⟨B+2,0,G0⟩ (.int .i64 (a:Nat)))).drew.cell? ⟨bq,1,G0⟩=G1 (.int .i64 (a:Nat)):=yX (wx:=((Ht (Ht (Ht (Ht (Ht (Ht (Ht w1 ⟨B,0,G0⟩ (.int .i64 0)) ⟨B,1,G0⟩ (.int .i64 0)) ⟨B,2,G0⟩ (.string ⟨#[]⟩)) ⟨B,3,G0⟩ (.slice G0 0 0)) ⟨B,4,G0⟩ (.int .i64 0)) ⟨B+1,0,G0⟩ (.int .i64 (er:Nat))) ⟨B+2,0,G0⟩ (.int .i64 (a:Nat)))).drew) ((BY _ bq).trans ((Hl (Ht (Ht (Ht (Ht (Ht (Ht w1 ⟨B,0,G0⟩ (.int .i64 0)) ⟨B,1,G0⟩ (.int .i64 0)) ⟨B,2,G0⟩ (.string ⟨#[]⟩)) ⟨B,3,G0⟩ (.slice G0 0 0)) ⟨B,4,G0⟩ (.int .i64 0)) ⟨B+1,0,G0⟩ (.int .i64 (er:Nat))) ⟨B+2,0,G0⟩ bq (.int .i64 (a:Nat)) (show bq≠B+2 by omega)).trans ((Hl (Ht (Ht (Ht (Ht (Ht w1 ⟨B,0,G0⟩ (.int .i64 0)) ⟨B,1,G0⟩ (.int .i64 0)) ⟨B,2,G0⟩ (.string ⟨#[]⟩)) ⟨B,3,G0⟩ (.slice G0 0 0)) ⟨B,4,G0⟩ (.int .i64 0)) ⟨B+1,0,G0⟩ bq (.int .i64 (er:Nat)) (show bq≠B+1 by omega)).trans ((ir w1 B bq (.int .i64 0) (.int .i64 0) (.string ⟨#[]⟩) (.slice G0 0 0) (.int .i64 0) (by omega)).trans R1))))
end
def Gy (w:G9)(res:Rs Ex)(e:Ja)(w':G9):Prop :=
 match res with
 | ⟨G0⟩=>False
 | ⟨G1 (.inl (er,a))⟩=>e=.returned (.tuple #[exV f6 G0 0,.int .i64 (er:Nat),.int .i64 (a:Nat)])/\Hf w.heap.size w w'
 | ⟨G1 (.inr (x,_))⟩=>∃ao cap,e=.returned (.tuple #[exV x ao cap,.int .i64 0,.int .i64 0])/\Sl w' (Nw w.heap.size) x.kids ao/\Hf w.heap.size w w'
theorem QS.bad5 {w:G9}{rb o q er a:Nat}{all:List Tk}(h:QS w rb all o q (.inl (er,a))):((er:Int)==0)=false/\w.cell? ⟨rb,4,G0⟩=G1 (.int .i64 (er:Nat))/\w.cell? ⟨rb,5,G0⟩=G1 (.int .i64 (a:Nat)):=by
 obtain⟨i,o',q',h1,h2,h3⟩:=h;obtain⟨_,_,_,_,_,_,_,_,_,_,_,c4,c5,hf0⟩:=h1.next (Hd h2);exact⟨by simp;omega,c4,c5⟩
theorem QS.new {w:G9}{g cap0:Nat}{ts:List Tk}(hg:g<w.heap.size)(hc:∀ j u,(fD ts)[j]?=G1 u->w.cell? ⟨g,j,G0⟩=G1 u)(hl:ts.length<=3000)(hc1:ts.length<=cap0)(hc2:cap0<=Hu)(hw:WFT ts) :
  QS (w.alloc (.cells #[.slice (G1 ⟨g,0,G0⟩) ts.length cap0,.int .i64 0,.int .i64 0,.int .i64 0,.int .i64 0,.int .i64 0] 64)) w.heap.size ts 0 0 (.inr ts) :=
 ⟨0,0,⟨g,cap0,Hc w _,hg,λj u hu=>(((Hi _ w).alloc (G4 _) _).cell (p:=⟨g,j,G0⟩) hg).trans (hc j u hu),hl,hc1,hc2⟩,rfl,hw,by omega,by omega⟩
theorem xW {w:G9}{b0:Nat}{v:He}{ts:List Tk}(hT:w.ownsRow b0 67 4 v ts.length (fD ts))(h0:0<ts.length):∃g cap,v=.slice (G1 ⟨g,0,G0⟩) ts.length cap/\g<w.heap.size/\ts.length<=cap/\cap<=Hu/\∀ j u,(fD ts)[j]?=G1 u->w.cell? ⟨g,j,G0⟩=G1 u:=by
 have r0:Row w (λ_=>0) 0 67 4 v ts.length (fD ts):=⟨pM hT,λ_ _=>rfl⟩;obtain⟨g,cap,rfl,-,hc1,hc2,hg,hcell,-⟩:=r0.pos h0;refine⟨g,cap,rfl,hg,hc1,hc2,λj u hu=>?_⟩;rw[hcell j ?_]
 ·exact hu
 ·have hlen:=r0.len;rw[<-hlen];by_cases hj:j<(fD ts).length
  ·exact hj
  ·rw[Ie (by omega)] at hu;cases hu
theorem yY {n:Nat}{ts:List Tk}{X:Ex}{er a:Nat}(hn:Nou (fN n 1 0 0) (.inr ts))(Q:Qd (fN n 1 0 0) (.inr ts) X (.inl (er,a))):jh n ts=.bad er a:=by
 have h1:=Q.1;simp only[onw] at h1;unfold jh;cases hp:fN n 1 0 0 ts using Rs.on with
 | out=>exact absurd hp (hn ts rfl)
 | bad e2 a2 =>
  rw[hp] at h1;simp only[stp] at h1;injection h1 with h1
  injection h1 with h1 h2
  subst h1 h2;rfl
 | ok y t=>rw[hp] at h1;cases h1
theorem xV {n:Nat}{ts:List Tk}{X:Ex}{y:Tk}{r:List Tk}(hn:Nou (fN n 1 0 0) (.inr ts))(Q:Qd (fN n 1 0 0) (.inr ts) X (.inr (y::r))):jh n ts=if y.k=0 then .ok X (y::r) else .bad 120 y.a:=by
 have h1:=Q.1;simp only[onw] at h1;unfold jh;cases hp:fN n 1 0 0 ts using Rs.on with
 | out=>exact absurd hp (hn ts rfl)
 | bad e2 a2=>rw[hp] at h1;cases h1
 | ok z t =>
  rw[hp] at h1;simp only[stp] at h1;injection h1 with h1
  subst h1;rw[Q.2 ts z _ rfl hp];rfl
theorem Cj (s:ByteArray)(w:G9)(hs:s.size<=Hu) :
  Hn G5 8 #[.string s] w (Gy w (ic s.data.toList)):=by
 obtain⟨W,hPW⟩:∃W,W=ic s.data.toList:=⟨_,rfl⟩;rw[<-hPW];have HW:Hid (W=ic s.data.toList):=hPW;have hn:W≠.out:=by rw[hPW];exact ug _
 have B0:Hf w.heap.size w (w.alloc exZ):=(Hi _ w).alloc (G4 _) _;have Z0:(w.alloc exZ).heap[w.heap.size]?=G1 exZ:=Hc w _;have hs0:w.heap.size<(w.alloc exZ).heap.size:=by simp
 have c1:=Dv s (w.alloc exZ) hs;clear hPW;go_enter Tryz.func8,Tryz.ntmps8;go_wp2_with fail;refine c1.mono ?_;rintro e w1 ⟨v,er,at0,rfl,hO,b1⟩;have B1:Hf w.heap.size w w1:=B0.trans (b1.mono (by omega));have Z1:=(b1.block _ hs0).trans Z0;have hz1:w.heap.size<w1.heap.size:=Ha Z1;clear c1 b1 Z0 B0;rcases hO with ⟨e,p,hR,rfl,rfl,rfl⟩|⟨ts,hR,rfl,rfl,hown⟩
 ·have he:=qZ hR;have heI:((e:Int)==0)=false:=by rw[beq_eq_false_iff_ne];omega
  have heI2:((e:Int) != 0)=true:=by simpa using heI
  have FIN:Hid (W=.bad e p):=by show W=_;rw[HW.out];unfold ic;rw[hR]
  have B9:=((((B1.setCell (p:=⟨w.heap.size,0,G0⟩) (G4 _) (.int .i64 0)).setCell (p:=⟨w.heap.size,1,G0⟩) (G4 _) (.int .i64 0)).setCell (p:=⟨w.heap.size,2,G0⟩) (G4 _) (.string ⟨#[]⟩)).setCell (p:=⟨w.heap.size,3,G0⟩) (G4 _) (.slice G0 0 0)).setCell (p:=⟨w.heap.size,4,G0⟩) (G4 _) (.int .i64 0);have ZE:=eX (.int .i64 0) (.int .i64 0) (.string ⟨#[]⟩) (.slice G0 0 0) (.int .i64 0) Z1;have HU:Hid (∃wz,wz=(Ht (Ht (Ht (Ht (Ht w1 ⟨w.heap.size,0,G0⟩ (.int .i64 0)) ⟨w.heap.size,1,G0⟩ (.int .i64 0)) ⟨w.heap.size,2,G0⟩ (.string ⟨#[]⟩)) ⟨w.heap.size,3,G0⟩ (.slice G0 0 0)) ⟨w.heap.size,4,G0⟩ (.int .i64 0))/\wz.cell? ⟨w.heap.size,0,G0⟩=G1 (.int .i64 0)/\wz.cell? ⟨w.heap.size,1,G0⟩=G1 (.int .i64 0)/\wz.cell? ⟨w.heap.size,2,G0⟩=G1 (.string ⟨#[]⟩)/\wz.cell? ⟨w.heap.size,3,G0⟩=G1 (.slice G0 0 0)/\wz.cell? ⟨w.heap.size,4,G0⟩=G1 (.int .i64 0)/\Hf w.heap.size w wz):=by
   obtain⟨u0,u1,u2,u3,u4,-⟩:=dS ZE;exact⟨_,rfl,u0,u1,u2,u3,u4,B9⟩
  obtain⟨z0,z1,z2,z3,z4,zf⟩:=dS Z1;clear ZE B9;clear HW hR B1 Z1 he;go_wp2;obtain⟨wz,hwz,u0,u1,u2,u3,u4,BZ⟩:=HU.out;clear HU;rw[<-hwz];clear hwz;exact Hb (v:=.tuple #[exV f6 G0 0,.int .i64 (e:Nat),.int .i64 (p:Nat)]) (by simp[Hk,Tryz.results8,go_sem,u0,u1,u2,u3,u4,exV,f6,Fs.len]) rfl (by rw[FIN.out];exact⟨rfl,BZ⟩)
 ·have hso:=l9 hR;have hPW:W=jh 30000 ts:=by rw[HW.out];unfold ic;rw[hR]
  have HW2:Hid (W=jh 30000 ts):=hPW;have hNou:Nou (fN 30000 1 0 0) (.inr ts):=λt0 h0 e=>hn (by cases h0;rw[hPW];unfold jh;rw[e];rfl);have hwf:WFT ts:=xh _ _ _ _ _ _ hso.2.1;have TI:∀ x,x ∈ ts->iJ x:=λx hx s h1 h2=>(EO hR x hx).is h1 h2;obtain⟨g,cap0,rfl,hg,hc1,hc2,hcell⟩:=xW hown hso.2.2.2.2.1;have hA:=QS.new hg hcell (by omega) hc1 hc2 hwf;have kA:=(dX.refl w1.heap.size w1).alloc (.cells #[.slice (G1 ⟨g,0,G0⟩) ts.length cap0,.int .i64 0,.int .i64 0,.int .i64 0,.int .i64 0,.int .i64 0] 64);have ZA:=(Hj w1 (.cells #[.slice (G1 ⟨g,0,G0⟩) ts.length cap0,.int .i64 0,.int .i64 0,.int .i64 0,.int .i64 0,.int .i64 0] 64) _ hz1).trans Z1;have BA:=B1.alloc (by omega) (.cells #[.slice (G1 ⟨g,0,G0⟩) ts.length cap0,.int .i64 0,.int .i64 0,.int .i64 0,.int .i64 0,.int .i64 0] 64);have c2:=(wY 30000 (by omega)).1 _ _ ts 1 0 0 _ TI (by omega) (by omega) hA hNou;have hsA:(w1.alloc (.cells #[.slice (G1 ⟨g,0,G0⟩) ts.length cap0,.int .i64 0,.int .i64 0,.int .i64 0,.int .i64 0,.int .i64 0] 64)).heap.size=w1.heap.size+1:=by simp
  have hrb:=hA.lt;clear HW hR hso hown hPW hcell hA hwf TI hn hg hc1 hc2 kA;go_wp2_with fail;refine c2.mono ?_;rintro e w2 ⟨X,ao,cap,st,rfl,S2,h2,k2,Q2⟩;have b2:=k2.below (IM hz1) hrb;have Z2:=k2.blk ZA (by omega);have B2:=BA.trans b2;have hz2:w.heap.size<w2.heap.size:=Ha Z2;have h3:=h2.alloc (bxE X ao cap);have Z3:=(Hj w2 (bxE X ao cap) _ hz2).trans Z2;have B3:=B2.alloc (by omega) (bxE X ao cap);have X3:(w2.alloc (bxE X ao cap)).heap[w2.heap.size]?=G1 (bxE X ao cap):=Hc w2 _;have S3:=S2.allocN (bxE X ao cap);have hz3:w1.heap.size<w2.heap.size:=h2.lt;rw[dU];go_upto_region 6 with fail;generalize w2.alloc (bxE X ao cap)=w3 at *;obtain⟨xb,hxb⟩:∃xb,xb=w2.heap.size:=⟨_,rfl⟩;rw[<-hxb] at X3 hz3 ⊢;have hxw:w.heap.size<xb:=by omega
  have hwr:w.heap.size<w1.heap.size:=hz1;have S3:=S3.low (show w.heap.size+1<=_ from (by omega));clear c2 S2 h2 k2 b2 Z2 B2 BA ZA B1 Z1 hz2 hxb hsA hrb;generalize w1.heap.size=rb at *
  match st,h3,Q2 with
  | .inl (er,a),h3,Q2 =>
   have FIN:Hid (W=.bad er a):=by show W=_;rw[HW2.out];exact yY hNou Q2
   clear HW2 Q2 hNou;obtain⟨hb,d4,d5⟩:=h3.bad5;have hb2:((er:Int) != 0)=true:=by simpa using hb
   go_quiet (fail)
   have b4:Hf w3.heap.size w3 (w3.drewN nq):=bdr (Hi _ _) nq;have h4:=h3.below b4;have Z4:=(b4.block _ (Ha Z3)).trans Z3;have B4:=B3.trans (b4.mono B3.size);generalize w3.drewN nq=w4 at *;clear b4 h3 Z3 B3 X3 S3 hb d4 d5 hb2;obtain⟨hb,d4,d5⟩:=h4.bad5;have hb2:((er:Int) != 0)=true:=by simpa using hb
   have B9:=((((B4.setCell (p:=⟨w.heap.size,0,G0⟩) (G4 _) (.int .i64 0)).setCell (p:=⟨w.heap.size,1,G0⟩) (G4 _) (.int .i64 0)).setCell (p:=⟨w.heap.size,2,G0⟩) (G4 _) (.string ⟨#[]⟩)).setCell (p:=⟨w.heap.size,3,G0⟩) (G4 _) (.slice G0 0 0)).setCell (p:=⟨w.heap.size,4,G0⟩) (G4 _) (.int .i64 0);have ZE:=eX (.int .i64 0) (.int .i64 0) (.string ⟨#[]⟩) (.slice G0 0 0) (.int .i64 0) Z4;have HU:Hid (∃wz,wz=(Ht (Ht (Ht (Ht (Ht w4 ⟨w.heap.size,0,G0⟩ (.int .i64 0)) ⟨w.heap.size,1,G0⟩ (.int .i64 0)) ⟨w.heap.size,2,G0⟩ (.string ⟨#[]⟩)) ⟨w.heap.size,3,G0⟩ (.slice G0 0 0)) ⟨w.heap.size,4,G0⟩ (.int .i64 0))/\wz.cell? ⟨w.heap.size,0,G0⟩=G1 (.int .i64 0)/\wz.cell? ⟨w.heap.size,1,G0⟩=G1 (.int .i64 0)/\wz.cell? ⟨w.heap.size,2,G0⟩=G1 (.string ⟨#[]⟩)/\wz.cell? ⟨w.heap.size,3,G0⟩=G1 (.slice G0 0 0)/\wz.cell? ⟨w.heap.size,4,G0⟩=G1 (.int .i64 0)/\Hf w.heap.size w wz):=by
    obtain⟨u0,u1,u2,u3,u4,-⟩:=dS ZE;exact⟨_,rfl,u0,u1,u2,u3,u4,B9⟩
   obtain⟨z0,z1,z2,z3,z4,zf⟩:=dS Z4;clear ZE B9;clear h4 B4 Z4;go_upto_region 9 with fail;go_region
   all_goals
    go_wp2;obtain⟨wz,hwz,u0,u1,u2,u3,u4,BZ⟩:=HU.out;clear HU;have BZd:=BZ.drew;rw[<-hwz];clear hwz;exact Hb (v:=.tuple #[exV f6 G0 0,.int .i64 (er:Nat),.int .i64 (a:Nat)]) (by simp[Hk,Tryz.results8,go_sem,u0,u1,u2,u3,u4,exV,f6,Fs.len]) rfl (by rw[FIN.out];exact⟨rfl,BZd⟩)
  | .inr [],h3,Q2=>exact absurd rfl (h3.nn [] rfl)
  | .inr (y::r),h3,Q2 =>
   have FIN0:Hid (W=if y.k=0 then .ok X (y::r) else .bad 120 y.a):=by show W=_;rw[HW2.out];exact xV hNou Q2
   clear HW2 Q2 hNou;obtain⟨i3,g3,cap3,L3,hg3,hi3,hcL3,hcap3,hL3,hm3,d0,d1,-,-,d4,⟨t0,t1,t2,t3⟩,hf⟩:=h3.ok;have hiI:(i3:Int)<(L3:Int):=by omega
   by_cases hk:y.k=0
   ·have FIN:Hid (W=.ok X (y::r)):=by show W=_;rw[FIN0.out,if_pos hk]
    have bk:((y.k:Int)==0)=true:=by simp[hk]
    have bk2:((y.k:Int) != 0)=false:=by simp[hk]
    clear FIN0 hk
    go_quiet (fail)
    have b4:Hf w3.heap.size w3 (w3.drewN nq):=bdr (Hi _ _) nq;have e4:=(b4.cell (p:=⟨rb,4,G0⟩) h3.lt).trans d4;have Z4:=(b4.block _ (Ha Z3)).trans Z3;have X4:=(b4.block _ (Ha X3)).trans X3;have B4:=B3.trans (b4.mono B3.size);have S4:=S3.mono (λi _ hl=>b4.block i hl) b4.size (λ_ h _=>h);generalize w3.drewN nq=w4 at *;clear b4 h3 Z3 B3 X3 S3 d0 d1 d4 t0 t1 t2 t3 hf hm3 bk bk2;have B9:=((((B4.setCell (p:=⟨w.heap.size,0,G0⟩) (G4 _) (.int .i64 X.k)).setCell (p:=⟨w.heap.size,1,G0⟩) (G4 _) (.int .i64 X.n)).setCell (p:=⟨w.heap.size,2,G0⟩) (G4 _) (stv X.nm)).setCell (p:=⟨w.heap.size,3,G0⟩) (G4 _) (.slice ao X.kids.len cap)).setCell (p:=⟨w.heap.size,4,G0⟩) (G4 _) (.int .i64 X.a);have ZE:=eX (.int .i64 X.k) (.int .i64 X.n) (stv X.nm) (.slice ao X.kids.len cap) (.int .i64 X.a) Z4;have SE:Sl _ (Nw w.heap.size) _ _:=(S4.set5 (b:=w.heap.size) (by omega) (.int .i64 X.k) (.int .i64 X.n) (stv X.nm) (.slice ao X.kids.len cap) (.int .i64 X.a)).low (by omega);obtain⟨z0,z1,z2,z3,z4,zf⟩:=dS Z4;obtain⟨x0,x1,x2,x3,x4,xf⟩:=dS X4;obtain⟨u0,u1,u2,u3,u4,-⟩:=dS ZE;clear ZE Z4 X4 B4 S4;go_wp2;exact Hb (v:=.tuple #[exV X ao cap,.int .i64 0,.int .i64 0]) (by simp[Hk,Tryz.results8,go_sem,u0,u1,u2,u3,u4,exV]) rfl (by rw[FIN.out];exact⟨ao,cap,rfl,SE,B9⟩)
   ·have FIN:Hid (W=.bad 120 y.a):=by show W=_;rw[FIN0.out,if_neg hk]
    have bk:((y.k:Int)==0)=false:=by simp;omega
    have bk2:((y.k:Int) != 0)=true:=by simp;omega
    clear FIN0 hk
    go_quiet (fail)
    have b4:Hf w3.heap.size w3 (w3.drewN nq):=bdr (Hi _ _) nq;have h4:=h3.below b4;have Z4:=(b4.block _ (Ha Z3)).trans Z3;have B4:=B3.trans (b4.mono B3.size);generalize w3.drewN nq=w4 at *;clear b4 h3 Z3 B3 X3 S3 d0 d1 d4 t0 t1 t2 t3 hf hm3 bk bk2;have c5:Hn G5 29 #[.pointer (G1 ⟨rb,0,G0⟩),.int .i64 120] w4 λr' w'=>r'=.returned (.tuple #[])/\QS w' rb ts 0 0 (.inl (120,y.a))/\dX rb w4 w':=jL 120 (by decide) h4;have hr4:=h4.lt;go_wp2_with fail;refine c5.mono ?_;rintro e w5 ⟨rfl,h5,k5⟩;have Z5:=k5.blk Z4 (by omega);have B5:=B4.trans (k5.below (IM hwr) hr4);clear c5 k5 Z4 B4 h4 hr4;obtain⟨hb,d4,d5⟩:=h5.bad5;have hb2:((120:Int) != 0)=true:=by decide
    have B9:=((((B5.setCell (p:=⟨w.heap.size,0,G0⟩) (G4 _) (.int .i64 0)).setCell (p:=⟨w.heap.size,1,G0⟩) (G4 _) (.int .i64 0)).setCell (p:=⟨w.heap.size,2,G0⟩) (G4 _) (.string ⟨#[]⟩)).setCell (p:=⟨w.heap.size,3,G0⟩) (G4 _) (.slice G0 0 0)).setCell (p:=⟨w.heap.size,4,G0⟩) (G4 _) (.int .i64 0);have ZE:=eX (.int .i64 0) (.int .i64 0) (.string ⟨#[]⟩) (.slice G0 0 0) (.int .i64 0) Z5;have HU:Hid (∃wz,wz=(Ht (Ht (Ht (Ht (Ht w5 ⟨w.heap.size,0,G0⟩ (.int .i64 0)) ⟨w.heap.size,1,G0⟩ (.int .i64 0)) ⟨w.heap.size,2,G0⟩ (.string ⟨#[]⟩)) ⟨w.heap.size,3,G0⟩ (.slice G0 0 0)) ⟨w.heap.size,4,G0⟩ (.int .i64 0))/\wz.cell? ⟨w.heap.size,0,G0⟩=G1 (.int .i64 0)/\wz.cell? ⟨w.heap.size,1,G0⟩=G1 (.int .i64 0)/\wz.cell? ⟨w.heap.size,2,G0⟩=G1 (.string ⟨#[]⟩)/\wz.cell? ⟨w.heap.size,3,G0⟩=G1 (.slice G0 0 0)/\wz.cell? ⟨w.heap.size,4,G0⟩=G1 (.int .i64 0)/\Hf w.heap.size w wz):=by
     obtain⟨u0,u1,u2,u3,u4,-⟩:=dS ZE;exact⟨_,rfl,u0,u1,u2,u3,u4,B9⟩
    obtain⟨z0,z1,z2,z3,z4,zf⟩:=dS Z5;clear ZE B9;clear h5 B5 Z5;go_upto_region 9 with fail;go_region
    all_goals
     go_wp2;obtain⟨wz,hwz,u0,u1,u2,u3,u4,BZ⟩:=HU.out;clear HU;have BZd:=BZ.drew;rw[<-hwz];clear hwz;exact Hb (v:=.tuple #[exV f6 G0 0,.int .i64 (120:Nat),.int .i64 (y.a:Nat)]) (by simp[Hk,Tryz.results8,go_sem,u0,u1,u2,u3,u4,exV,f6,Fs.len]) rfl (by rw[FIN.out];exact⟨rfl,BZd⟩)
end Go.Proofs.YtkhgahljbpmfaaaGreatDoor
