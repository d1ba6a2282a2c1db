import Derived.Test.YtbjdkekhnajafaaGreatDoorRdqO
set_option maxRecDepth 100000
set_option maxHeartbeats 8000000
namespace Go.Proofs.YtbjdkekhnajafaaGreatDoor
open Go.ChangeShapes Go.WideShapes Go.ChangeAt Go.RowKit
set_option linter.unusedVariables false
set_option linter.unusedSimpArgs false
theorem nQ {β:Type}{F:List Tk->Rs β}{st0:Sq}{ea:Nat × Nat}{G H:List Tk->Rs β}(h:Ctx F st0 G (.inl ea)):Ctx F st0 H (.inl ea):=h.congr fun ts hs=>by cases hs
def hdG (rec:Rdr)(g o q:Nat)(K:Fs->List Tk->Rs Ex)(acc:Fs):Bool->List Tk->Rs Ex
 | true=>fun t=>K acc t
 | false=>fun t=>(rec 1 o q t).bind fun e t1=>(fE rec g o q (acc.snoc e) t1).bind K
theorem wS (e:Ex):Fs.snoc .nil e=one e:=by simp only[Fs.snoc,Fs.app]
theorem vy {rec:Rdr}{m o q:Nat}{K:Fs->List Tk->Rs Ex}{F:List Tk->Rs Ex}{st0 st:Sq}(h:Ctx F st0 (fun t=>(jR rec m o q t).bind K) st)(hne:∀ ts,st=.inr ts->ts≠[]):Ctx F st0 (hdG rec m o q K .nil (isS [125] st)) st:=by
 match st,h,hne with
 | .inl ea,h,_=>exact nQ h
 | .inr [],h,hne=>exact absurd rfl (hne [] rfl)
 | .inr (x::r),h,_ =>
  by_cases hx:x.t=[125]
  ·rw[show isS [125] (.inr (x::r))=true by simp[isS,hx]];refine h.congr fun ts hs=>?_;cases hs;simp only[jR,hx,if_true,hdG];rfl
  ·rw[show isS [125] (.inr (x::r))=false by simp[isS,hx]];refine h.congr fun ts hs=>?_;cases hs;simp only[jR,hx,if_false,hdG,Rs.bind_assoc,wS]
theorem Ai {rec:Rdr}{g o q:Nat}{K:Fs->List Tk->Rs Ex}{F:List Tk->Rs Ex}{st0 st:Sq}{acc:Fs}(h:Ctx F st0 (fun t=>(fE rec g o q acc t).bind K) st)(hs:isS [125] st=true):Ctx F st0 (hdG rec 0 o q K acc true) st:=by
 obtain⟨x,r,rfl,hx⟩:=lN hs;cases g with
 | zero=>exact absurd rfl (h.1 _ rfl)
 | succ g =>
  refine h.congr fun ts hs=>?_;cases hs;simp only[fE,hdG];rw[if_neg (by rw[hx];decide)];rfl
theorem vm {rec:Rdr}{g o q:Nat}{K:Fs->List Tk->Rs Ex}{F:List Tk->Rs Ex}{st0 st:Sq}{acc:Fs}(h:Ctx F st0 (fun t=>(fE rec g o q acc t).bind K) st)(hK:∀ (x:Tk) r,x.t≠[125]->K acc (x::r)=.bad 120 x.a)(hs:isS [125] st=false)(hne:∀ ts,st=.inr ts->ts≠[]) :
  ∃g',Ctx F st0 (hdG rec g' o q K acc false) (onw (aW [44]) st)/\(g=g'+1\/∃ea,onw (aW [44]) st=.inl ea):=by
 match st,h,hs,hne with
 | .inl ea,h,_,_=>exact⟨0,nQ h,.inr ⟨ea,rfl⟩⟩
 | .inr [],h,_,hne=>exact absurd rfl (hne [] rfl)
 | .inr (x::r),h,hs,_ =>
  have hx:¬x.t=[125]:=by simpa [isS] using hs
  cases g with
  | zero=>exact absurd rfl (h.1 _ rfl)
  | succ g =>
   by_cases hc:x.t=[44]
   ·have e1:onw (aW [44]) (.inr (x::r))=.inr r:=by simp[onw,aW,hc,stp]
    rw[e1];refine⟨g,h.eat ?_,.inl rfl⟩;simp only[fE,hc,if_true,hdG,Rs.bind_assoc]
   ·have e1:onw (aW [44]) (.inr (x::r))=.inl (120,x.a):=by simp[onw,aW,hc,stp]
    rw[e1];have e2:(fE rec (g+1) o q acc (x::r)).bind K=.bad 120 x.a:=by
     simp only[fE,hc,if_false];exact hK x r hx
    refine⟨g,⟨fun ts hs=>(by cases hs),fun X st' q=>h.2 X st' ?_⟩,.inl rfl⟩;rw[q.1];exact⟨by simp only[onw];rw[e2];rfl,fun ts y t hs hy=>by cases hs;have hy:(fE rec (g+1) o _ acc (x::r)).bind K=_:=hy;rw[e2] at hy;cases hy⟩
theorem au.lab {rb:Nat}{w w':World}{o:Nat->Nat}(k:au rb w w')(h7:o rb=7):aa (fun x=>x=7) w o w' (ae w o 0):=⟨k.os,k.tape,k.output,k.size,fun j hj=>aC hj,fun j hj hn=>k.block j hj fun e=>hn (by rw[e,h7])⟩
structure Lb7 (rb n0:Nat)(o:Nat->Nat):Prop where
 r:o rb=7
 z:o n0=3
 b:o (n0+1)=1
 low:∀ k,k<n0->k≠rb->o k=0
theorem zI {rb n0:Nat}(h:rb<n0):Lb7 rb n0 (fun k=>if k=rb then 7 else if k=n0+1 then 1 else if k=n0 then 3 else 0):=by
 refine⟨by simp,?_,?_,fun k hk hn=>?_⟩
 ·show (if n0=rb then 7 else if n0=n0+1 then 1 else if n0=n0 then 3 else 0)=3;rw[if_neg (by omega),if_neg (by omega),if_pos rfl]
 ·show (if n0+1=rb then 7 else if n0+1=n0+1 then 1 else if n0+1=n0 then 3 else 0)=1;rw[if_neg (by omega),if_pos rfl]
 ·show (if k=rb then 7 else if k=n0+1 then 1 else if k=n0 then 3 else 0)=0;rw[if_neg hn,if_neg (by omega),if_neg (by omega)]
theorem Lb7.n2 {rb n0:Nat}{o:Nat->Nat}(l:Lb7 rb n0 o):∀ k,k<n0->o k≠2:=fun k hk=>by
 by_cases e:k=rb
 ·rw[e,l.r];decide
 ·rw[l.low k hk e];decide
theorem jO.sl2 {w:World}{o:Nat->Nat}{n0:Nat}{acc:Fs}{v:Value}(h:jO w o n0 acc v)(ho:∀ k,k<n0->o k≠2):∃ao cap,v=.slice ao acc.len cap/\Sl w (fun b=>n0<=b/\(o b=0\/o b=2)) acc ao:=by
 obtain⟨xs,r,f⟩:=h;by_cases h0:0<acc.len
 ·obtain⟨g,cap,rfl,hg,_,_,hlt,hc,_⟩:=r.pos h0;have hl:=r.len;refine⟨_,cap,rfl,.inr ⟨g,0,xs,rfl,⟨?_,.inr hg⟩,hlt,fun j u hu=>?_,f.mono (fun _ _ _=>rfl) (Nat.le_refl _) (fun _ hp _=>⟨hp.1,.inl hp.2⟩)⟩⟩
  ·by_cases hn:n0<=g
   ·exact hn
   ·exact absurd hg (ho g (by omega))
  ·rw[Nat.zero_add,hc j ?_]
   ·exact hu
   ·rw[<-hl];by_cases hj:j<xs.length
    ·exact hj
    ·rw[List.getElem?_eq_none (by omega)] at hu;cases hu
 ·obtain⟨ao,cap,rfl⟩:=r.form;refine⟨ao,cap,rfl,.inl ?_⟩;cases acc using Fs.on with
  | nil=>rfl
  | cons k n nm a ks r=>simp[Fs.len] at h0
theorem Lb7.step {rb n0:Nat}{I:Nat->Prop}{w w':World}{o o':Nat->Nat}(h:Lb7 rb n0 o)(s:aa I w o w' o')(hr:rb<n0)(hn:n0+1<w.heap.size):Lb7 rb n0 o' :=
 ⟨(s.lab _ (by omega)).trans h.r,(s.lab _ (by omega)).trans h.z,(s.lab _ hn).trans h.b,fun k hk hn2=>(s.lab _ (by omega)).trans (h.low k hk hn2)⟩
theorem QS.lab {I:Nat->Prop}{w w':World}{o' o2:Nat->Nat}{rb n0 o q:Nat}{all:List Tk}{st:Sq}(h:QS w rb all o q st)(s:aa I w o' w' o2)(l:Lb7 rb n0 o')(hr:rb<n0)(h7:¬I 7)(h0:¬I 0):QS w' rb all o q st:=h.same fun k hk=>s.block k (by have:=h.lt;omega) (by
 by_cases e:k=rb
 ·rw[e,l.r];exact h7
 ·rw[l.low k (by omega) e];exact h0)
theorem au.lab0 {I:Nat->Prop}{rb n0:Nat}{a w w':World}{o o':Nat->Nat}(K:au rb a w)(s:aa I w o w' o')(l:Lb7 rb n0 o)(hn:a.heap.size=n0)(h0:¬I 0):au rb a w' :=
 ⟨s.os.trans K.os,s.tape.trans K.tape,s.output.trans K.output,Nat.le_trans K.size s.size,fun k hk hn2=>(s.block k (Nat.lt_of_lt_of_le hk K.size) (by rw[l.low k (by omega) hn2];exact h0)).trans (K.block k hk hn2)⟩
theorem vB {w wr w4 w5:World}{rb n0 o q g5 c5 cap4:Nat}{A:Int}{all:List Tk}{st4:Sq}{oR o5:Nat->Nat}{va:Value}{acc:Fs}{xs:List Value}{X:Ex}{ao4:Option Addr}
  (hn0:n0=w.heap.size) (hrn:rb<n0) (K3:au rb w wr) (Z3:wr.heap[n0]?=some exZ) (O3:wr.heap[n0+1]?=some (.cells #[.int .i64 25,.int .i64 0,.string ⟨#[]⟩,va,.int .i64 A] 25 (0,0))) (L3:Lb7 rb n0 oR) (fc:Fc wr (N0 n0 oR) acc xs)
  (k4:au rb wr.drew w4) (S4:Sl w4 (Nw wr.drew.heap.size) X.kids ao4) (h4:QS w4 rb all o q st4)
  (s5:aa (fun x=>x=2) (w4.alloc (.cells #[.int .i64 X.k,.int .i64 X.n,stv X.nm,.slice ao4 X.kids.len cap4,.int .i64 X.a] 25)) (ae wr.drew oR 0) w5 o5)
  (r5:Row w5 o5 2 25 5 (.slice (some ⟨g5,0,none⟩) (acc.len+1) c5) (acc.len+1) (xs++[.int .i64 X.k,.int .i64 X.n,stv X.nm,.slice ao4 X.kids.len cap4,.int .i64 X.a])) :
  w5.heap[n0+1]?=some (.cells #[.int .i64 25,.int .i64 0,.string ⟨#[]⟩,va,.int .i64 A] 25 (0,0))/\QS (w5.setCell ⟨n0+1,3,none⟩ (.slice (some ⟨g5,0,none⟩) (acc.len+1) c5)) rb all o q st4/\au rb w (w5.setCell ⟨n0+1,3,none⟩ (.slice (some ⟨g5,0,none⟩) (acc.len+1) c5))/\(w5.setCell ⟨n0+1,3,none⟩ (.slice (some ⟨g5,0,none⟩) (acc.len+1) c5)).heap[n0]?=some exZ/\(w5.setCell ⟨n0+1,3,none⟩ (.slice (some ⟨g5,0,none⟩) (acc.len+1) c5)).heap[n0+1]?=some (.cells #[.int .i64 25,.int .i64 0,.string ⟨#[]⟩,.slice (some ⟨g5,0,none⟩) (acc.len+1) c5,.int .i64 A] 25 (0,0))/\jO (w5.setCell ⟨n0+1,3,none⟩ (.slice (some ⟨g5,0,none⟩) (acc.len+1) c5)) o5 n0 (acc.snoc X) (.slice (some ⟨g5,0,none⟩) (acc.len+1) c5)/\Lb7 rb n0 o5:=by
 have hd:n0+1<wr.heap.size:=lt_of_block O3;have s4:aa (fun x=>x=7) wr oR w4 (ae wr.drew oR 0):=(aa.refl _ wr oR).drew.trans (k4.lab L3.r);have sA:=dK (fun _=>False) w4 (ae wr.drew oR 0) (.cells #[.int .i64 X.k,.int .i64 X.n,stv X.nm,.slice ao4 X.kids.len cap4,.int .i64 X.a] 25);have O5:Blk w5 o5 1 (n0+1) _:=((Blk.step (⟨O3,L3.b⟩:Blk wr oR 1 (n0+1) _) s4 (by decide)).step sA id).step s5 (by decide);have Z5:Blk w5 o5 3 n0 _:=((Blk.step (⟨Z3,L3.z⟩:Blk wr oR 3 n0 _) s4 (by decide)).step sA id).step s5 (by decide);have L4:=L3.step s4 hrn hd;have hd4:n0+1<w4.heap.size:=Nat.lt_of_lt_of_le hd s4.size;have LA:=L4.step sA hrn hd4;have hdA:n0+1<(w4.alloc (.cells #[.int .i64 X.k,.int .i64 X.n,stv X.nm,.slice ao4 X.kids.len cap4,.int .i64 X.a] 25)).heap.size:=Nat.lt_of_lt_of_le hd4 sA.size;have L5:=LA.step s5 hrn hdA;have hd5:n0+1<w5.heap.size:=Nat.lt_of_lt_of_le hdA s5.size;have s6:=bT (fun x=>x=1) w5 o5 ⟨n0+1,3,none⟩ (.slice (some ⟨g5,0,none⟩) (acc.len+1) c5) O5.2;have hS:Sl w4 (N0 n0 (ae wr.drew oR 0)) X.kids ao4:=S4.mono (fun _ _ _=>rfl) (Nat.le_refl _) (fun i hp hl=>⟨by have hp:wr.heap.size<=i:=hp;omega,ax hp⟩);have A5:jO w5 o5 n0 (acc.snoc X) _:=jO.push ((fc.lab s4 (by decide)).lab sA id) (hS.lab sA id) s5 r5;have hq:=((h4.alloc (.cells #[.int .i64 X.k,.int .i64 X.n,stv X.nm,.slice ao4 X.kids.len cap4,.int .i64 X.a] 25)).lab s5 LA hrn (by decide) (by decide)).lab s6 L5 hrn (by decide) (by decide);have k1:au rb w w4:=K3.trans ((au.refl rb wr).drew.trans k4);have kk:=((k1.alloc (.cells #[.int .i64 X.k,.int .i64 X.n,stv X.nm,.slice ao4 X.kids.len cap4,.int .i64 X.a] 25)).lab0 s5 LA hn0.symm (by decide)).lab0 s6 L5 hn0.symm (by decide);exact⟨O5.1,hq,kk,(Z5.step s6 (by decide)).1,(O5.set 3 _).1,A5.step s6 (by decide) (by decide),L5.step s6 hrn hd5⟩
def po (rec:Rdr)(m o q:Nat)(ts:List Tk):Rs Ex:=(aG [123] o ts).bind fun a t1=>(jR rec m (o+1) q t1).bind fun ks t2=>(aW [125] t2).bind fun _ t3=>.ok ⟨25,0,[],a,ks⟩ t3
theorem xv (a:Int)(acc:Fs)(x:Tk)(r:List Tk)(h:x.t≠[125]):((aW [125] (x::r)).bind fun _ t3=>(.ok ⟨25,0,[],a,acc⟩ t3:Rs Ex))=.bad 120 x.a:=by simp[aW,h,Rs.bind]
theorem QS.nn {w:World}{rb o q:Nat}{all:List Tk}{st:Sq}(h:QS w rb all o q st):∀ ts,st=.inr ts->ts≠[]:=fun ts e=>by subst e;exact h.le.2.2.ne
theorem Db {rec:Rdr}(R:jq rec){w:World}{rb o q m:Nat}{all:List Tk}{x:Tk}{r:List Tk}(hm:m<=1000000)(TI:∀ x,x ∈ all->et x)(h:QS w rb all o q (.inr (x::r)))(hn:Nou (po rec m o q) (.inr (x::r))) :
  Calls Tryz.prog 282 #[.pointer (some ⟨rb,0,none⟩),.int .i64 (x.a:Nat)] w (dn rb all o q w (.inr (x::r)) (po rec m o q)):=by
 have hrb:=h.lt;have CA:=Ctx.start hn;obtain⟨F,hF⟩:∃F,F=po rec m o q:=⟨_,rfl⟩
 have C0:Ctx F (.inr (x::r)) (fun ts=>(aG [123] o ts).bind fun a t1=>(jR rec m (o+1) q t1).bind fun ks t2=>(aW [125] t2).bind fun _ t3=>.ok ⟨25,0,[],a,ks⟩ t3) (.inr (x::r)):=by rw[hF];exact CA
 rw[<-hF];clear hF hn CA;obtain⟨K,hK⟩:∃K:Fs->List Tk->Rs Ex,K=fun ks t2=>(aW [125] t2).bind fun _ t3=>.ok ⟨25,0,[],(x.a:Nat),ks⟩ t3:=⟨_,rfl⟩
 have CB:=C0.step (jA (o:=o) (x:=x) (r:=r) [123]);have C1:Ctx F (.inr (x::r)) (fun t=>(jR rec m (o+1) q t).bind K) (onw (aG [123] o) (.inr (x::r))):=by rw[hK];exact CB
 have HK:Hid (K=fun ks t2=>(aW [125] t2).bind fun _ t3=>.ok ⟨25,0,[],(x.a:Nat),ks⟩ t3):=hK;obtain⟨ii,hii,hzi0,hzi1,hzi2⟩:=aH lr;obtain⟨w0,hw0⟩:∃w0,w0=(w.alloc exZ).alloc (.cells #[.int .i64 25,.int .i64 0,.string ⟨#[]⟩,.slice none 0 0,.int .i64 (x.a:Nat)] 25):=⟨_,rfl⟩
 have K0:au rb w w0:=by rw[hw0];exact((au.refl rb w).alloc _).alloc _
 have h0:QS w0 rb all o q (.inr (x::r)):=by rw[hw0];exact(h.alloc exZ).alloc _
 obtain⟨n0,hn0⟩:∃n0,n0=w.heap.size:=⟨_,rfl⟩
 have Z0:w0.heap[n0]?=some exZ:=by
  rw[hw0,hn0];exact(Below.heap_alloc _ _ _ (by simp)).trans (heap_alloc_new w _)
 have O0:w0.heap[n0+1]?=some (.cells #[.int .i64 25,.int .i64 0,.string ⟨#[]⟩,.slice none 0 0,.int .i64 (x.a:Nat)] 25 (0,0)):=by
  rw[hw0,hn0]
  have:=heap_alloc_new (w.alloc exZ) (.cells #[.int .i64 25,.int .i64 0,.string ⟨#[]⟩,.slice none 0 0,.int .i64 (x.a:Nat)] 25)
  simpa using this
 have c1:=nl TI [123] (by decide) (by decide) h0;generalize onw (aG [123] o) (.inr (x::r))=st1 at *;have hrn:rb<n0:=by omega
 go_enter Tryz.func282,Tryz.ntmps282;go_upto_region 2 with fail;rw[<-hw0,<-hn0];have HN:Hid (n0=w.heap.size):=hn0;clear hw0 h h0 C0 CB hK hn0;go_wp2_with fail;refine c1.mono ?_;rintro e w1 ⟨rfl,h1,k1⟩;clear c1;have Z1:=k1.blk Z0 (by omega);have O1:=k1.blk O0 (by omega);have K1:=K0.trans k1;have c2:=rP TI [125] (by decide) (by decide) h1;clear Z0 O0 K0 k1;go_wp2_with fail;refine c2.mono ?_;rintro e w2 ⟨rfl,b2⟩;clear c2;have k2:=au.ofBelow (rb:=rb) b2;have h2:=h1.below b2;have Z2:=k2.blk Z1 (by omega);have O2:=k2.blk O1 (by omega);have K2:=K1.trans k2;have C2:=vy C1 h2.nn;clear Z1 O1 K1 k2 b2 C1 h1;obtain⟨oL,L2⟩:∃oL:Nat->Nat,Lb7 rb n0 oL:=⟨_,zI hrn⟩
 have A2:jO w2 oL n0 .nil (.slice none 0 0):=⟨[],Row.nil _ _ _ _ _,rfl⟩
 go_wp2_with fail;go_loopg [6] (m+1) (fun g v wr=>∃(en:Bool) (st:Sq) (acc:Fs) (oR:Nat->Nat) (va:Value) (g':Nat),v=.bool en/\Hid (en=true\/(∃ea,st=.inl ea)\/g=g'+1)/\Hid (acc.len+g<=m+1)/\Ctx F (.inr (x::r)) (hdG rec g' (o+1) q K acc en) st/\QS wr rb all (o+1) q st/\au rb w wr/\wr.heap[n0]?=some (.cells #[.int .i64 0,.int .i64 0,.string ⟨#[]⟩,.slice none 0 0,.int .i64 0] 25 (0,0))/\wr.heap[n0+1]?=some (.cells #[.int .i64 25,.int .i64 0,.string ⟨#[]⟩,va,.int .i64 (x.a:Nat)] 25 (0,0))/\jO wr oR n0 acc va/\Hid (Lb7 rb n0 oR))
 case atStart=>exact⟨_,st1,.nil,oL,.slice none 0 0,m,rfl,.inr (.inr rfl),by show 0+(m+1)<=m+1;omega,C2,h2,K2,Z2,O2,A2,L2⟩
 case round =>
  clear C2 h2 K2 Z2 O2 A2 L2;obtain⟨en,st,acc,oR,va,g',rfl,HG,HL,C,h3,K3,Z3,O3,A3,L3⟩:=hrel;have key:(Hid (Ctx F (.inr (x::r)) (fun t=>K acc t) st)/\(en=true\/en=false/\∃er a,st=.inl (er,a)))\/(en=false/\gk=g'+1/\∃y s,st=.inr (y::s)):=by
   cases en with
   | true=>exact .inl ⟨C,.inl rfl⟩
   | false =>
    match st,C,h3,HG with
    | .inl (er,a),C,h3,HG=>exact .inl ⟨nQ C,.inr ⟨rfl,er,a,rfl⟩⟩
    | .inr [],C,h3,HG=>exact absurd rfl (h3.nn [] rfl)
    | .inr (y::s),C,h3,HG =>
     refine .inr ⟨rfl,?_,y,s,rfl⟩;rcases HG.out with h|⟨ea,h⟩|h
     ·cases h
     ·cases h
     ·exact h
  clear HG;rcases key with ⟨HC,hen⟩|⟨rfl,rfl,y,s,rfl⟩
  ·have C4:Ctx F (.inr (x::r)) (fun t=>(aW [125] t).bind fun _ t3=>.ok ⟨25,0,[],(x.a:Nat),acc⟩ t3) st:=by have h9:=HC.out;rw[HK.out] at h9;exact h9
   clear C HC;rcases hen with rfl|⟨rfl,er,a,rfl⟩
   ·have c4:=iq TI [125] ⟨by decide,by decide⟩ h3;clear h3;go_wp2_with fail;refine c4.mono ?_;rintro e w4 ⟨x4,st4,rfl,h4,k4,Q4⟩;have FIN:=(C4.step Q4).fin;have s4:=k4.lab L3.out.r;have A4:=A3.step s4 (by decide) (by decide);have L4:=L3.out.step s4 hrn (lt_of_block O3);have Z4:=k4.blk Z3 (by omega);have O4:=k4.blk O3 (by omega);have K4:=K3.trans k4;obtain⟨a1,c1,rfl,SL⟩:=A4.sl2 L4.n2;have KE:=K4.set5 (b:=n0) (by have:=HN.out;omega) (.int .i64 25) (.int .i64 0) (stv []) (.slice a1 acc.len c1) (.int .i64 (x.a:Nat));have RE:=h4.set5 (b:=n0) (by omega) (.int .i64 25) (.int .i64 0) (stv []) (.slice a1 acc.len c1) (.int .i64 (x.a:Nat));have ZE:=bH (.int .i64 25) (.int .i64 0) (stv []) (.slice a1 acc.len c1) (.int .i64 (x.a:Nat)) Z4;have SE:=SL.mono (w':=(((((w4.setCell ⟨n0,0,none⟩ (.int .i64 25)).setCell ⟨n0,1,none⟩ (.int .i64 0)).setCell ⟨n0,2,none⟩ (stv [])).setCell ⟨n0,3,none⟩ (.slice a1 acc.len c1)).setCell ⟨n0,4,none⟩ (.int .i64 (x.a:Nat)))) (Q:=Nw n0) (fun i hp hl=>eo w4 n0 i (.int .i64 25) (.int .i64 0) (stv []) (.slice a1 acc.len c1) (.int .i64 (x.a:Nat)) (fun ee=>by have h2:=L4.z;rw[<-ee] at h2;rcases hp.2 with h|h<;>omega)) (by simp) (fun i hp _=>hp.1);have HU:Hid (∃wz,wz=(((((w4.setCell ⟨n0,0,none⟩ (.int .i64 25)).setCell ⟨n0,1,none⟩ (.int .i64 0)).setCell ⟨n0,2,none⟩ (stv [])).setCell ⟨n0,3,none⟩ (.slice a1 acc.len c1)).setCell ⟨n0,4,none⟩ (.int .i64 (x.a:Nat)))/\wz.cell? ⟨n0,0,none⟩=some (.int .i64 25)/\wz.cell? ⟨n0,1,none⟩=some (.int .i64 0)/\wz.cell? ⟨n0,2,none⟩=some (stv [])/\wz.cell? ⟨n0,3,none⟩=some (.slice a1 acc.len c1)/\wz.cell? ⟨n0,4,none⟩=some (.int .i64 (x.a:Nat))/\Sl wz (Nw n0) acc a1/\au rb w wz/\QS wz rb all o q st4):=by
     obtain⟨u0,u1,u2,u3,u4,-⟩:=ai ZE;exact⟨_,rfl,u0,u1,u2,u3,u4,SE,KE,RE⟩
    obtain⟨u0,u1,u2,u3,u4,uf⟩:=ai O4;obtain⟨z0,z1,z2,z3,z4,zf⟩:=ai Z4;have HF:=Lib.hid FIN;clear KE RE ZE SE c4 C4 Q4 FIN s4 A4 L4 Z4 O4 K4 SL k4 h4 A3 Z3 O3 K3;go_wp2;obtain⟨wz,hwz,v0,v1,v2,v3,v4,SZ,KZ,RZ⟩:=HU.out;clear HU;rw[<-hwz];clear hwz;exact bodyPost_ret (v:=exV ⟨25,0,[],(x.a:Nat),acc⟩ a1 c1) (by simp[results,Tryz.results282,go_sem,v0,v1,v2,v3,v4,exV]) rfl ⟨_,_,_,_,rfl,by rw[<-HN.out];exact SZ,RZ,KZ,HF.out⟩
   ·obtain⟨hb,d4,-⟩:=h3.bad;have c4:=iq TI [125] ⟨by decide,by decide⟩ h3;clear h3;go_wp2_with fail;refine c4.mono ?_;rintro e w4 ⟨x4,st4,rfl,h4,k4,Q4⟩;have FIN:=(C4.step Q4).fin;have s4:=k4.lab L3.out.r;have A4:=A3.step s4 (by decide) (by decide);have L4:=L3.out.step s4 hrn (lt_of_block O3);clear d4 hb;have Z4:=k4.blk Z3 (by omega);have O4:=k4.blk O3 (by omega);have K4:=K3.trans k4;obtain⟨a1,c1,rfl,SL⟩:=A4.sl2 L4.n2;have KE:=K4.set5 (b:=n0) (by have:=HN.out;omega) (.int .i64 25) (.int .i64 0) (stv []) (.slice a1 acc.len c1) (.int .i64 (x.a:Nat));have RE:=h4.set5 (b:=n0) (by omega) (.int .i64 25) (.int .i64 0) (stv []) (.slice a1 acc.len c1) (.int .i64 (x.a:Nat));have ZE:=bH (.int .i64 25) (.int .i64 0) (stv []) (.slice a1 acc.len c1) (.int .i64 (x.a:Nat)) Z4;have SE:=SL.mono (w':=(((((w4.setCell ⟨n0,0,none⟩ (.int .i64 25)).setCell ⟨n0,1,none⟩ (.int .i64 0)).setCell ⟨n0,2,none⟩ (stv [])).setCell ⟨n0,3,none⟩ (.slice a1 acc.len c1)).setCell ⟨n0,4,none⟩ (.int .i64 (x.a:Nat)))) (Q:=Nw n0) (fun i hp hl=>eo w4 n0 i (.int .i64 25) (.int .i64 0) (stv []) (.slice a1 acc.len c1) (.int .i64 (x.a:Nat)) (fun ee=>by have h2:=L4.z;rw[<-ee] at h2;rcases hp.2 with h|h<;>omega)) (by simp) (fun i hp _=>hp.1);have HU:Hid (∃wz,wz=(((((w4.setCell ⟨n0,0,none⟩ (.int .i64 25)).setCell ⟨n0,1,none⟩ (.int .i64 0)).setCell ⟨n0,2,none⟩ (stv [])).setCell ⟨n0,3,none⟩ (.slice a1 acc.len c1)).setCell ⟨n0,4,none⟩ (.int .i64 (x.a:Nat)))/\wz.cell? ⟨n0,0,none⟩=some (.int .i64 25)/\wz.cell? ⟨n0,1,none⟩=some (.int .i64 0)/\wz.cell? ⟨n0,2,none⟩=some (stv [])/\wz.cell? ⟨n0,3,none⟩=some (.slice a1 acc.len c1)/\wz.cell? ⟨n0,4,none⟩=some (.int .i64 (x.a:Nat))/\Sl wz (Nw n0) acc a1/\au rb w wz/\QS wz rb all o q st4):=by
     obtain⟨u0,u1,u2,u3,u4,-⟩:=ai ZE;exact⟨_,rfl,u0,u1,u2,u3,u4,SE,KE,RE⟩
    obtain⟨u0,u1,u2,u3,u4,uf⟩:=ai O4;obtain⟨z0,z1,z2,z3,z4,zf⟩:=ai Z4;have HF:=Lib.hid FIN;clear KE RE ZE SE c4 C4 Q4 FIN s4 A4 L4 Z4 O4 K4 SL k4 h4 A3 Z3 O3 K3;go_wp2;obtain⟨wz,hwz,v0,v1,v2,v3,v4,SZ,KZ,RZ⟩:=HU.out;clear HU;rw[<-hwz];clear hwz;exact bodyPost_ret (v:=exV ⟨25,0,[],(x.a:Nat),acc⟩ a1 c1) (by simp[results,Tryz.results282,go_sem,v0,v1,v2,v3,v4,exV]) rfl ⟨_,_,_,_,rfl,by rw[<-HN.out];exact SZ,RZ,KZ,HF.out⟩
  ·have e0:=h3.e0;have C4:Ctx F (.inr (x::r)) (fun t=>(rec 1 (o+1) q t).bind fun e t1=>(fE rec g' (o+1) q (acc.snoc e) t1).bind K) (.inr (y::s)):=C;clear C;have hlen:acc.len<=1000000:=by have:=HL.out;omega
   obtain⟨xs,rw3,fc3⟩:=A3;have hd:QS wr.drew rb all (o+1) q (.inr (y::s)):=h3.below (Below.refl _ _).drew;have c5:=R wr.drew rb all 1 (o+1) q _ TI (by omega) (by omega) hd C4.nou;have b1:acc.len+1<=maxLen:=by unfold maxLen;omega
   have b2:(acc.len+1)*64<=140737488355328:=by omega
   have HCN:Hid (∀ X st5,Qd (rec 1 (o+1) q) (.inr (y::s)) X st5->Ctx F (.inr (x::r)) (fun t1=>(fE rec g' (o+1) q (acc.snoc X) t1).bind K) st5):=fun X st5 Q=>C4.step Q;go_upto_region 5 with fail;go_cut [28] (fun v wx=>∃(X:Ex) (st5:Sq) (o5:Nat->Nat) (v5:Value),Ctx F (.inr (x::r)) (fun t1=>(fE rec g' (o+1) q (acc.snoc X) t1).bind K) st5/\QS wx rb all (o+1) q st5/\au rb w wx/\wx.heap[n0]?=some (.cells #[.int .i64 0,.int .i64 0,.string ⟨#[]⟩,.slice none 0 0,.int .i64 0] 25 (0,0))/\wx.heap[n0+1]?=some (.cells #[.int .i64 25,.int .i64 0,.string ⟨#[]⟩,v5,.int .i64 (x.a:Nat)] 25 (0,0))/\jO wx o5 n0 (acc.snoc X) v5/\Lb7 rb n0 o5)
   case first =>
    obtain⟨p0,p1,p2,p3,p4,pf⟩:=ai O3;have hp0:n0+1<wr.heap.size:=lt_of_block O3;go_region_law (first|(go_simp;go_at_call 34;refine c5.mono ?_;rintro e w5 ⟨x5,ao5,cap5,st5,rfl,S5,h5,k5,Q5⟩;have O5:=k5.blk (show wr.drew.heap[n0+1]?=_ from O3) (by omega);have hp5:n0+1<w5.heap.size:=lt_of_block O5;obtain⟨e0,e1,e2,e3,e4,ef⟩:=ai O5;rw[am])|(refine cX rfl (.tmp 23) (.tmp 26) 23 rfl 25 ii _ 5 64 Tryz.underlying23 hii hzi0 hzi1 hzi2 rfl (by decide) (ae wr.drew oR 0) 2 va acc.len xs (by simp[Act.eval]) ((rw3.step ((aa.refl (fun x=>x=7) wr oR).drew.trans (k5.lab L3.out.r)) (by decide)).step (dK (fun _=>False) w5 _ _) id) ⟨w5.heap.size,0,none⟩ 1 1 [.int .i64 x5.k,.int .i64 x5.n,stv x5.nm,.slice ao5 x5.kids.len cap5,.int .i64 x5.a] (by simp[Act.eval]) rfl (dh w5 _ _) (by intro u hu;simp at hu;rcases hu with rfl|rfl|rfl|rfl|rfl<;>rfl) (by decide) b1 b2 ?_;intro g6 c6 w6 o6 r6 s6;have FX:=vB HN.out hrn K3 Z3 O3 L3.out fc3 k5 S5 h5 s6 r6;obtain⟨f0,f1,f2,f3,f4,ff⟩:=ai FX.1))
    all_goals
     go_wp2;go_meet;exact⟨x5,st5,o6,_,HCN.out _ _ Q5,FX.2.1,FX.2.2.1,FX.2.2.2.1,FX.2.2.2.2.1,FX.2.2.2.2.2.1,FX.2.2.2.2.2.2⟩
   case rest =>
   obtain⟨X,st5,o5,v5,C5,h5,K5,Z5,O5,A5,L5⟩:=hcut;clear e0 C4 rw3 fc3 hd c5 b1 b2 HCN h3 K3 Z3 O3 L3 xs;have HA:Hid ((acc.snoc X).len+g'<=m+1):=by show _<=_;rw[Fs.len_snoc];have:=HL.out;omega
   have c6:=rP TI [125] (by decide) (by decide) h5;go_wp2_with fail;refine c6.mono ?_;rintro e w6 ⟨rfl,b6⟩;have k6:=au.ofBelow (rb:=rb) b6;have h6:=h5.below b6;have s6:=k6.lab L5.r;have A6:=A5.step s6 (by decide) (by decide);have L6:=L5.step s6 hrn (lt_of_block O5);have Z6:=k6.blk Z5 (by omega);have O6:=k6.blk O5 (by omega);have K6:=K5.trans k6;have hne:=h5.nn;clear c6 b6 k6 s6 A5 L5 Z5 O5 K5 h5;cases hb:isS [125] st5 with
   | true =>
    have C6:=Ai C5 hb;clear C5 hb hne;go_wp2
    go_roundg g'
    case rel=>(try ((repeat apply Exists.intro);refine⟨?_,rfl⟩));exact⟨true,st5,acc.snoc X,_,v5,0,rfl,.inl rfl,HA,C6,h6,K6,Z6,O6,A6,L6⟩
    all_goals omega
   | false =>
    obtain⟨g2,C7,hg2⟩:=vm C5 (fun x r hx=>by rw[HK.out];exact xv _ _ _ _ hx) hb hne;have c7:=ri TI [44] (by decide) (by decide) h6;have HG:Hid (false=true\/(∃ea,onw (aW [44]) st5=.inl ea)\/g'=g2+1):=.inr (hg2.elim (fun h=>.inr h) (fun h=>.inl h));generalize onw (aW [44]) st5=st7 at *;clear C5 hb hne hg2 h6;go_wp2_with fail;refine c7.mono ?_;rintro e w7 ⟨rfl,h7,k7⟩;have s7:=k7.lab L6.r;have A7:=A6.step s7 (by decide) (by decide);have L7:=L6.step s7 hrn (lt_of_block O6);have Z7:=k7.blk Z6 (by omega);have O7:=k7.blk O6 (by omega);have K7:=K6.trans k7;clear c7 k7 s7 A6 L6 Z6 O6 K6;go_wp2
    go_roundg g'
    case rel=>(try ((repeat apply Exists.intro);refine⟨?_,rfl⟩));exact⟨false,st7,acc.snoc X,_,v5,g2,rfl,HG,HA,C7,h7,K7,Z7,O7,A7,L7⟩
    all_goals omega
def Da (rec:Rdr)(m:Nat):Prop :=
 ∀ (w:World) (rb:Nat) (all:List Tk) (o q:Nat) (st:Sq),(∀ x,x ∈ all->et x)->QS w rb all o q st->Nou (eV rec m o q) st->Calls Tryz.prog 248 #[.pointer (some ⟨rb,0,none⟩)] w (dn rb all o q w st (eV rec m o q))
theorem mD {f:List Tk->Rs Ex}{x:Tk}{r:List Tk}{e a:Nat}(X:Ex)(h:f (x::r)=.bad e a):Qd f (.inr (x::r)) X (.inl (e,a)):=⟨by simp only[onw];rw[h];rfl,fun ts y t hs hy=>by cases hs;rw[h] at hy;cases hy⟩
theorem z8 {y:Tk}{r:List Tk}(h:y.k=2):Qd (dX 2) (.inr (y::r)) y (.inr r):=⟨by simp[onw,dX,h,stp],fun ts z t hs hz=>by cases hs;simp[dX,h] at hz;exact hz.1⟩
theorem QS.downQ {w:World}{rb o q:Nat}{all:List Tk}{st:Sq}(h:QS w rb all o (q+1) st) :
  ∃q':Int,w.cell? ⟨rb,3,none⟩=some (.int .i64 q')/\(∀ j,w.frozen? ⟨rb,j,none⟩=false)/\QS (w.setCell ⟨rb,3,none⟩ (.int .i64 (wrap64 (q' - 1)))) rb all o q st:=by
 match st,h with
 | .inl (er,a),⟨i,o',q',h1,h2,h3⟩ =>
  obtain⟨_,_,_,_,_,_,_,_,_,_,c3,_,_,hf⟩:=h1.next (List.getElem?_eq_getElem h2);exact⟨q',c3,hf,i,o',_,h1.set.2.2.1 _,h2,h3⟩
 | .inr [],⟨i,pl,h1,h2,h3⟩=>exact absurd rfl h3.1.ne
 | .inr (x::r),⟨i,pl,h1,h2,h3⟩ =>
  obtain⟨hx,_,hm⟩:=m7 h2;obtain⟨_,_,_,_,_,_,_,_,_,_,c3,_,_,hf⟩:=h1.next hx;refine⟨_,c3,hf,i,pl,?_,h2,h3.1,h3.2.1,by have:=h3.2.2;omega⟩;have e:wrap64 ((((q+1:Nat):Int))-1)=((q:Nat):Int):=by have:=h3.2.2;unfold wrap64;omega
  rw[e];exact h1.set.2.2.1 _
theorem zh {rec:Rdr}(R:jq rec){m:Nat}(RS:Da rec m){w:World}{rb o q n:Nat}{all:List Tk}{x:Tk}{r:List Tk}(TI:∀ x,x ∈ all->et x)(hxt:x.t≠[])(hn9:n<6)(h:QS w rb all o q (.inr (x::r)))(hn:Nou (dq rec m x.t (n+1) o q) (.inr (x::r))) :
  Calls Tryz.prog 204 #[.pointer (some ⟨rb,0,none⟩),.int .i64 (n:Nat),.int .i64 (x.a:Nat)] w (dn rb all o q w (.inr (x::r)) (dq rec m x.t (n+1) o q)):=by
 have hrb:=h.lt;have K0:au rb w (w.alloc exZ):=(au.refl rb w).alloc _;have Z0:(w.alloc exZ).heap[w.heap.size]?=some exZ:=heap_alloc_new w _;have h0:=h.alloc exZ;have hs1:w.heap.size<(w.alloc exZ).heap.size:=by simp
 have hle:=h.le;obtain⟨i,g,cap,L,hg,hi,hcL,hcap,hL,hm,d0,d1,d2,d3,d4,-,hf⟩:=h0.ok;clear d0 d1 d4 hm;by_cases hA:o=64\/q=4
 ·have EQ:dq rec m x.t (n+1) o q (x::r)=.bad 121 x.a:=by
   unfold dq;by_cases h4:q=4
   ·simp[h4]
   ·have h64:o=64:=by rcases hA with h|h;exact h;exact absurd h h4
    simp[h4,aG,h64,Rs.bind]
  have c1:Calls Tryz.prog 35 #[.pointer (some ⟨rb,0,none⟩),.int .i64 121] (w.alloc exZ) fun r' w'=>r'=.returned (.tuple #[])/\QS w' rb all o q (.inl (121,x.a))/\au rb (w.alloc exZ) w':=fJ 121 (by decide) h0;have HE:=mD (X:=da) EQ;clear EQ hn h0;by_cases h64:o=64
  ·subst h64;clear hA;go_enter Tryz.func204,Tryz.ntmps204;go_wp2_with fail;refine c1.mono ?_;rintro e w1 ⟨rfl,h1,k1⟩;clear c1 d2 d3 hf;have Z1:=k1.blk Z0 (by have:=K0.size;omega);have K1:=K0.trans k1;clear K0 Z0;have KE:=K1.set5 (b:=w.heap.size) (by omega) (.int .i64 0) (.int .i64 0) (stv []) (.slice none 0 0) (.int .i64 0);have RE:=h1.set5 (b:=w.heap.size) (by omega) (.int .i64 0) (.int .i64 0) (stv []) (.slice none 0 0) (.int .i64 0);have ZE:=bH (.int .i64 0) (.int .i64 0) (stv []) (.slice none 0 0) (.int .i64 0) Z1;obtain⟨z0,z1,z2,z3,z4,zf⟩:=ai Z1;obtain⟨u0,u1,u2,u3,u4,-⟩:=ai ZE;have FIN:=HE;clear ZE K1 Z1 h1;go_wp2;exact bodyPost_ret (v:=exV da none 0) (by simp[results,Tryz.results204,go_sem,u0,u1,u2,u3,u4,exV,da,Fs.len]) rfl ⟨_,_,_,_,rfl,Sl.nil _ _ _,RE,KE,FIN⟩
  ·have h4:q=4:=by rcases hA with h|h;exact absurd h h64;exact h
   have b64:((o:Int)==64)=false:=by simp;omega
   subst h4;clear hA h64;go_enter Tryz.func204,Tryz.ntmps204;go_wp2_with fail;refine c1.mono ?_;rintro e w1 ⟨rfl,h1,k1⟩;clear c1 d2 d3 hf;have Z1:=k1.blk Z0 (by have:=K0.size;omega);have K1:=K0.trans k1;clear K0 Z0;have KE:=K1.set5 (b:=w.heap.size) (by omega) (.int .i64 0) (.int .i64 0) (stv []) (.slice none 0 0) (.int .i64 0);have RE:=h1.set5 (b:=w.heap.size) (by omega) (.int .i64 0) (.int .i64 0) (stv []) (.slice none 0 0) (.int .i64 0);have ZE:=bH (.int .i64 0) (.int .i64 0) (stv []) (.slice none 0 0) (.int .i64 0) Z1;obtain⟨z0,z1,z2,z3,z4,zf⟩:=ai Z1;obtain⟨u0,u1,u2,u3,u4,-⟩:=ai ZE;have FIN:=HE;clear ZE K1 Z1 h1;go_wp2;exact bodyPost_ret (v:=exV da none 0) (by simp[results,Tryz.results204,go_sem,u0,u1,u2,u3,u4,exV,da,Fs.len]) rfl ⟨_,_,_,_,rfl,Sl.nil _ _ _,RE,KE,FIN⟩
 ·have ho:o<64:=by have:=hle.1;omega
  have hq:q<4:=by have:=hle.2.1;omega
  have b64:((o:Int)==64)=false:=by simp;omega
  have b4:((q:Int)==4)=false:=by simp;omega
  have EQ:∀ ts,(.inr (x::r):Sq)=.inr ts->dq rec m x.t (n+1) o q ts=(fun ts=>(aG x.t o ts).bind fun a t1=>(dX 2 t1).bind fun y t2=>(aW [105,110] t2).bind fun _ t3=>(eV rec m (o+1) (q+1) t3).bind fun e t4=>(aW [58] t4).bind fun _ t5=>(rec 1 (o+1) (q+1) t5).bind fun b t6=>.ok ⟨21,(n:Int)+1,y.t,a,(one e).snoc b⟩ t6) ts:=fun ts hs=>by
   cases hs;show (if q=4 then _ else _)=_;rw[if_neg (by omega)];rfl
  have HC:Hid (∀ X st',Qd (fun ts=>(aG x.t o ts).bind fun a t1=>(dX 2 t1).bind fun y t2=>(aW [105,110] t2).bind fun _ t3=>(eV rec m (o+1) (q+1) t3).bind fun e t4=>(aW [58] t4).bind fun _ t5=>(rec 1 (o+1) (q+1) t5).bind fun b t6=>.ok ⟨21,(n:Int)+1,y.t,a,(one e).snoc b⟩ t6) (.inr (x::r)) X st'->Qd (dq rec m x.t (n+1) o q) (.inr (x::r)) X st'):=fun X st' q=>q.congr fun ts hs=>(EQ ts hs).symm;have C0:=Ctx.start (hn.congr EQ);have C1:=C0.step (jA (o:=o) (x:=x) (r:=r) x.t);have h1:=h0.quants (q+1) (by omega);have h2:=h1;rw[show ((q+1:Nat):Int)=(q:Int)+1 by omega] at h2;have e1:onw (aG x.t o) (.inr (x::r))=.inr r:=by simp[onw,aG,stp,show ¬o=64 by omega]
  rw[e1] at C1;have HO:Hid (∀ wx,QS wx rb all o (q+1) (.inr (x::r))->Calls Tryz.prog 129 #[.pointer (some ⟨rb,0,none⟩)] wx fun e w'=>e=.returned (.tuple #[])/\QS w' rb all (o+1) (q+1) (.inr r)/\au rb wx w'):=fun wx hh=>om ho hxt hh;have k0:=au.at (rb:=rb) (w.alloc exZ) 3 (.int .i64 ((q:Int)+1));clear EQ hn h0 C0 h1 e1 hA;go_enter Tryz.func204,Tryz.ntmps204;go_upto_region 4 with fail;generalize w.alloc exZ=v0 at *;go_upto_region 5 with fail;generalize v0.setCell ⟨rb,3,none⟩ (.int .i64 ((q:Int)+1))=w1 at *;clear d2 d3 hf;have Z1:=k0.blk Z0 (by have:=K0.size;omega);have K1:=K0.trans k0;clear K0 Z0;have c2:=HO.out w1 h2;go_wp2_with fail;refine c2.mono ?_;rintro e w2 ⟨rfl,h3,k2⟩;clear c2 HO h2;have Z2:=k2.blk Z1 (by have:=K1.size;omega);have K2:=K1.trans k2;clear K1 Z1;cases r with
  | nil=>exact absurd rfl h3.le.2.2.ne
  | cons y r2 =>
  obtain⟨i3,g3,cap3,L3,hg3,hi3,hcL3,hcap3,hL3,hm3,d0,d1,-,-,-,⟨t0,t1,t2,t3⟩,hf⟩:=h3.ok;have bz:Below w2.heap.size w2 (w2.alloc (.cells #[.int .i64 0,.int .i64 0,.string ⟨#[]⟩,.int .i64 0] 73)):=(Below.refl _ w2).alloc (Nat.le_refl _) _;have hrb2:rb<w2.heap.size:=h3.lt;have hgs:g3<w2.heap.size:=by omega
  have d0b:=(bz.cell (p:=⟨rb,0,none⟩) hrb2).trans d0;have d1b:=(bz.cell (p:=⟨rb,1,none⟩) hrb2).trans d1;have u0:=(bz.cell (p:=⟨g3,i3*4,none⟩) hgs).trans t0;have u1:=(bz.cell (p:=⟨g3,i3*4+1,none⟩) hgs).trans t1;have u2:=(bz.cell (p:=⟨g3,i3*4+2,none⟩) hgs).trans t2;have u3:=(bz.cell (p:=⟨g3,i3*4+3,none⟩) hgs).trans t3;have hiI:(i3:Int)<(L3:Int):=by omega
  have h2T:=ft w2 (.cells #[.int .i64 (y.k:Nat),.int .i64 y.n,stv y.t,.int .i64 (y.a:Nat)] 73);clear bz;go_upto_region 6 with fail;go_cut [7] (fun v wx=>∃bt,v=.pointer (some ⟨bt,0,none⟩)/\w2.heap.size<=bt/\wx.heap[bt]?=some (.cells #[.int .i64 (y.k:Nat),.int .i64 y.n,stv y.t,.int .i64 (y.a:Nat)] 73 (0,0))/\Below w2.heap.size w2 wx)
  case first =>
   go_region
   all_goals
    go_wp2;go_meet;exact⟨_,rfl,Nat.le_refl _,h2T.1,h2T.2⟩
  case rest =>
  obtain⟨bt,rfl,hbt0,TB,B1⟩:=hcut;clear t0 t1 t2 t3 d0 d1 hf hm3 d0b d1b u0 u1 u2 u3 h2T;have k3:=au.ofBelow (rb:=rb) B1;have h4:=h3.below B1;have hbt:rb<bt:=by have:=h3.lt;omega
  clear h3 B1;have Z3:=k3.blk Z2 (by have:=K2.size;omega);have K3:=K2.trans k3;clear K2 Z2;obtain⟨p0,p1,p2,p3,pf⟩:=Blk.cells4 (o:=fun _=>0) (i:=0) ⟨TB,rfl⟩;by_cases hk:y.k=2
  ·have bk:((y.k:Int)==2)=true:=by simp[hk]
   have bk2:((y.k:Int) != 2)=false:=by rw[_root_.bne,bk];rfl
   have C2:=C1.step (z8 hk);have hk0:y.k≠0:=by omega
   clear C1 hk;obtain⟨i4,g4,cap4,L4,hg4,hi4,hcL4,hcap4,hL4,hm4,-,d1,-,-,-,-,hf⟩:=h4.ok;have h5:=h4.over (.inr hk0) d1;have k4:=au.at (rb:=rb) wc 1 (.int .i64 ((i4:Int)+1));clear h4;go_upto_region 11 with fail;generalize wc.setCell ⟨rb,1,none⟩ (.int .i64 ((i4:Int)+1))=w4 at *;clear d1 hf hm4 p0 p1 p2 p3 pf;have Z4:=k4.blk Z3 (by have:=K3.size;omega);have K4:=K3.trans k4;have TB_4:=k4.blk TB (by omega);clear K3 Z3 TB;have c6:=lE TI [105,110] ⟨by decide,by decide⟩ h5;go_wp2_with fail;refine c6.mono ?_;rintro e w6 ⟨x6,st6,rfl,h6,k6,Q6⟩;have C6:=C2.step Q6;clear c6 Q6 C2;have Z6:=k6.blk Z4 (by have:=K4.size;omega);have K6:=K4.trans k6;have TB_6:=k6.blk TB_4 (by omega);clear K4 Z4 TB_4;have c7:=RS _ rb all (o+1) (q+1) st6 TI h6 C6.nou;go_wp2_with fail;refine c7.mono ?_;rintro e w7 ⟨x7,ao7,cap7,st7,rfl,S7,h7,k7,Q7⟩;have C7:=C6.step Q7;clear c7 Q7 C6;have S7a:=S7.low (show (w.heap.size+1)<=_ from (by have:=lt_of_block Z6;omega));clear S7;have Z7:=k7.blk Z6 (by have:=K6.size;omega);have K7:=K6.trans k7;have TB_7:=k7.blk TB_6 (by omega);clear K6 Z6 TB_6;have h7a:=h7.alloc (.cells #[.int .i64 x7.k,.int .i64 x7.n,stv x7.nm,.slice ao7 x7.kids.len cap7,.int .i64 x7.a] 25);have K7a:=K7.alloc (.cells #[.int .i64 x7.k,.int .i64 x7.n,stv x7.nm,.slice ao7 x7.kids.len cap7,.int .i64 x7.a] 25);have Z7a:=(Below.heap_alloc w7 (.cells #[.int .i64 x7.k,.int .i64 x7.n,stv x7.nm,.slice ao7 x7.kids.len cap7,.int .i64 x7.a] 25) _ (lt_of_block Z7)).trans Z7;have TB_7a:=(Below.heap_alloc w7 (.cells #[.int .i64 x7.k,.int .i64 x7.n,stv x7.nm,.slice ao7 x7.kids.len cap7,.int .i64 x7.a] 25) _ (lt_of_block TB_7)).trans TB_7;have Y7_a:(World.alloc w7 (.cells #[.int .i64 x7.k,.int .i64 x7.n,stv x7.nm,.slice ao7 x7.kids.len cap7,.int .i64 x7.a] 25)).heap[w7.heap.size]?=some (.cells #[.int .i64 x7.k,.int .i64 x7.n,stv x7.nm,.slice ao7 x7.kids.len cap7,.int .i64 x7.a] 25):=heap_alloc_new w7 _;have S7a_7b:=S7a.allocN (.cells #[.int .i64 x7.k,.int .i64 x7.n,stv x7.nm,.slice ao7 x7.kids.len cap7,.int .i64 x7.a] 25);have hb7:rb<w7.heap.size:=by have:=K7.size;omega
   clear h7 K7 Z7 TB_7 S7a;rw[am];have c8:=lE TI [58] ⟨by decide,by decide⟩ h7a;go_wp2_with fail;refine c8.mono ?_;rintro e w8 ⟨x8,st8,rfl,h8,k8,Q8⟩;have C8:=C7.step Q8;clear c8 Q8 C7;have Z8:=k8.blk Z7a (by have:=K7a.size;omega);have K8:=K7a.trans k8;have TB_8:=k8.blk TB_7a (by omega);have Y7_8:=k8.blk Y7_a (by omega);have S7a_8:=S7a_7b.keepN k8 (by omega);clear K7a Z7a TB_7a Y7_a S7a_7b;have c9:=R _ rb all 1 (o+1) (q+1) st8 TI (by omega) (by omega) h8 C8.nou;go_wp2_with fail;refine c9.mono ?_;rintro e w9 ⟨x9,ao9,cap9,st9,rfl,S9,h9,k9,Q9⟩;have C9:=C8.step Q9;clear c9 Q9 C8;have S9a:=S9.low (show (w.heap.size+1)<=_ from (by have:=lt_of_block Z8;omega));clear S9;have Z9:=k9.blk Z8 (by have:=K8.size;omega);have K9:=K8.trans k9;have TB_9:=k9.blk TB_8 (by omega);have Y7_9:=k9.blk Y7_8 (by omega);have S7a_9:=S7a_8.keepN k9 (by omega);clear K8 Z8 TB_8 Y7_8 S7a_8;have h9a:=h9.alloc (.cells #[.int .i64 x9.k,.int .i64 x9.n,stv x9.nm,.slice ao9 x9.kids.len cap9,.int .i64 x9.a] 25);have K9a:=K9.alloc (.cells #[.int .i64 x9.k,.int .i64 x9.n,stv x9.nm,.slice ao9 x9.kids.len cap9,.int .i64 x9.a] 25);have Z9a:=(Below.heap_alloc w9 (.cells #[.int .i64 x9.k,.int .i64 x9.n,stv x9.nm,.slice ao9 x9.kids.len cap9,.int .i64 x9.a] 25) _ (lt_of_block Z9)).trans Z9;have TB_9a:=(Below.heap_alloc w9 (.cells #[.int .i64 x9.k,.int .i64 x9.n,stv x9.nm,.slice ao9 x9.kids.len cap9,.int .i64 x9.a] 25) _ (lt_of_block TB_9)).trans TB_9;have Y7_9a:=(Below.heap_alloc w9 (.cells #[.int .i64 x9.k,.int .i64 x9.n,stv x9.nm,.slice ao9 x9.kids.len cap9,.int .i64 x9.a] 25) _ (lt_of_block Y7_9)).trans Y7_9;have Y9_a:(World.alloc w9 (.cells #[.int .i64 x9.k,.int .i64 x9.n,stv x9.nm,.slice ao9 x9.kids.len cap9,.int .i64 x9.a] 25)).heap[w9.heap.size]?=some (.cells #[.int .i64 x9.k,.int .i64 x9.n,stv x9.nm,.slice ao9 x9.kids.len cap9,.int .i64 x9.a] 25):=heap_alloc_new w9 _;have S7a_9b:=S7a_9.allocN (.cells #[.int .i64 x9.k,.int .i64 x9.n,stv x9.nm,.slice ao9 x9.kids.len cap9,.int .i64 x9.a] 25);have S9a_9b:=S9a.allocN (.cells #[.int .i64 x9.k,.int .i64 x9.n,stv x9.nm,.slice ao9 x9.kids.len cap9,.int .i64 x9.a] 25);have hb9:rb<w9.heap.size:=by have:=K9.size;omega
   clear h9 K9 Z9 TB_9 Y7_9 S7a_9 S9a;rw[am];go_upto_region 15 with fail;generalize (World.alloc w9 (.cells #[.int .i64 x9.k,.int .i64 x9.n,stv x9.nm,.slice ao9 x9.kids.len cap9,.int .i64 x9.a] 25))=v10 at *;obtain⟨o11,d11,df11,h11⟩:=h9a.down;have k11:au rb v10 _:=au.at v10 2 (.int .i64 (wrap64 (o11-1)));clear h9a;go_upto_region 16 with fail;generalize v10.setCell ⟨rb,2,none⟩ (.int .i64 (wrap64 (o11-1)))=w11 at *;clear d11 df11;have Z11:=k11.blk Z9a (by have:=K9a.size;omega);have K11:=K9a.trans k11;have TB_11:=k11.blk TB_9a (by omega);have Y7_11:=k11.blk Y7_9a (by omega);have Y9_11:=k11.blk Y9_a (by omega);have S7a_11:=S7a_9b.keepN k11 (by omega);have S9a_11:=S9a_9b.keepN k11 (by omega);clear K9a Z9a TB_9a Y7_9a Y9_a S7a_9b S9a_9b;obtain⟨o12,d12,df12,h12⟩:=h11.downQ;have k12:au rb w11 _:=au.at w11 3 (.int .i64 (wrap64 (o12-1)));clear h11;go_upto_region 17 with fail;generalize w11.setCell ⟨rb,3,none⟩ (.int .i64 (wrap64 (o12-1)))=w12 at *;clear d12 df12;have Z12:=k12.blk Z11 (by have:=K11.size;omega);have K12:=K11.trans k12;have TB_12:=k12.blk TB_11 (by omega);have Y7_12:=k12.blk Y7_11 (by omega);have Y9_12:=k12.blk Y9_11 (by omega);have S7a_12:=S7a_11.keepN k12 (by omega);have S9a_12:=S9a_11.keepN k12 (by omega);clear K11 Z11 TB_11 Y7_11 Y9_11 S7a_11 S9a_11;have HX:=HC.out _ _ C9.fin;have NS:Sl (World.alloc w12 (.cells [.int .i64 x7.k,.int .i64 x7.n,stv x7.nm,.slice ao7 x7.kids.len cap7,.int .i64 x7.a,.int .i64 x9.k,.int .i64 x9.n,stv x9.nm,.slice ao9 x9.kids.len cap9,.int .i64 x9.a].toArray 25)) (Nw (w.heap.size+1)) ((one x7).snoc x9) (some ⟨w12.heap.size,0,none⟩):=Sl.fresh _ 25 (Fc.app (Fc.one (e:=x7) cap7 S7a_12) (Fc.one (e:=x9) cap9 S9a_12)) (by have:=lt_of_block Z12;omega);have KF:=K12.alloc (.cells [.int .i64 x7.k,.int .i64 x7.n,stv x7.nm,.slice ao7 x7.kids.len cap7,.int .i64 x7.a,.int .i64 x9.k,.int .i64 x9.n,stv x9.nm,.slice ao9 x9.kids.len cap9,.int .i64 x9.a].toArray 25);have RF:=h12.alloc (.cells [.int .i64 x7.k,.int .i64 x7.n,stv x7.nm,.slice ao7 x7.kids.len cap7,.int .i64 x7.a,.int .i64 x9.k,.int .i64 x9.n,stv x9.nm,.slice ao9 x9.kids.len cap9,.int .i64 x9.a].toArray 25);have ZF:=(Below.heap_alloc w12 (.cells [.int .i64 x7.k,.int .i64 x7.n,stv x7.nm,.slice ao7 x7.kids.len cap7,.int .i64 x7.a,.int .i64 x9.k,.int .i64 x9.n,stv x9.nm,.slice ao9 x9.kids.len cap9,.int .i64 x9.a].toArray 25) _ (lt_of_block Z12)).trans Z12;have KE:=KF.set5 (b:=w.heap.size) (by omega) (.int .i64 21) (.int .i64 ((n:Int)+1)) (stv y.t) (.slice (some ⟨w12.heap.size,0,none⟩) 2 2) (.int .i64 x.a);have RE:=RF.set5 (b:=w.heap.size) (by omega) (.int .i64 21) (.int .i64 ((n:Int)+1)) (stv y.t) (.slice (some ⟨w12.heap.size,0,none⟩) 2 2) (.int .i64 x.a);have ZE:=bH (.int .i64 21) (.int .i64 ((n:Int)+1)) (stv y.t) (.slice (some ⟨w12.heap.size,0,none⟩) 2 2) (.int .i64 x.a) ZF;have SE:Sl _ (Nw w.heap.size) _ _:=(NS.set5 (b:=w.heap.size) (by omega) (.int .i64 21) (.int .i64 ((n:Int)+1)) (stv y.t) (.slice (some ⟨w12.heap.size,0,none⟩) 2 2) (.int .i64 x.a)).low (by omega);obtain⟨z0,z1,z2,z3,z4,zf⟩:=ai ZF;obtain⟨u0,u1,u2,u3,u4,-⟩:=ai ZE;obtain⟨y00,y01,y02,y03,y0f⟩:=Blk.cells4 (o:=fun _=>0) (i:=0) ⟨TB_12,rfl⟩;obtain⟨y10,y11,y12,y13,y14,y1f⟩:=ai Y7_12;obtain⟨y20,y21,y22,y23,y24,y2f⟩:=ai Y9_12;have FIN:=HX;clear HX ZE ZF KF RF NS K12 Z12 h12 TB_12 Y7_12 Y9_12 S7a_12 S9a_12;go_wp2;exact bodyPost_ret (v:=exV ⟨21,((n:Int)+1),y.t,x.a,((one x7).snoc x9)⟩ (some ⟨w12.heap.size,0,none⟩) 2) (by simp[results,Tryz.results204,go_sem,u0,u1,u2,u3,u4,exV];rfl) rfl ⟨_,_,_,_,rfl,SE,RE,KE,FIN⟩
  ·have bk:((y.k:Int)==2)=false:=by simp;omega
   have bk2:((y.k:Int) != 2)=true:=by rw[_root_.bne,bk];rfl
   have HE:=HC.out _ _ (C1.2 da (.inl (120,y.a)) (mD da (by simp[dX,hk,Rs.bind])));clear C1 HC hk;have c5:Calls Tryz.prog 35 #[.pointer (some ⟨rb,0,none⟩),.int .i64 120] wc fun r' w'=>r'=.returned (.tuple #[])/\QS w' rb all (o+1) (q+1) (.inl (120,y.a))/\au rb wc w':=fJ 120 (by decide) h4;clear h4;go_wp2_with fail;refine c5.mono ?_;rintro e w5 ⟨rfl,h5b,k5⟩;have h5:=h5b.bad.2.2 o q;clear c5 h5b p0 p1 p2 p3 pf TB;have Z5:=k5.blk Z3 (by have:=K3.size;omega);have K5:=K3.trans k5;clear K3 Z3;have KE:=K5.set5 (b:=w.heap.size) (by omega) (.int .i64 0) (.int .i64 0) (stv []) (.slice none 0 0) (.int .i64 0);have RE:=h5.set5 (b:=w.heap.size) (by omega) (.int .i64 0) (.int .i64 0) (stv []) (.slice none 0 0) (.int .i64 0);have ZE:=bH (.int .i64 0) (.int .i64 0) (stv []) (.slice none 0 0) (.int .i64 0) Z5;obtain⟨z0,z1,z2,z3,z4,zf⟩:=ai Z5;obtain⟨u0,u1,u2,u3,u4,-⟩:=ai ZE;have FIN:=HE;clear ZE K5 Z5 h5;go_wp2;exact bodyPost_ret (v:=exV da none 0) (by simp[results,Tryz.results204,go_sem,u0,u1,u2,u3,u4,exV,da,Fs.len]) rfl ⟨_,_,_,_,rfl,Sl.nil _ _ _,RE,KE,FIN⟩
end Go.Proofs.YtbjdkekhnajafaaGreatDoor
