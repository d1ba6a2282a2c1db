import Derived.Test.YtbjdkekhnajafaaGreatDoorEqU
set_option maxRecDepth 100000
set_option maxHeartbeats 8000000
namespace Go.Proofs.YtbjdkekhnajafaaGreatDoor
set_option linter.unusedVariables false
set_option linter.unusedSimpArgs false
structure Rl (K:Nat->Int)(u:Nat)(s:Em)(d:Dp):Prop where
 ok:okQ s
 ul:u<=s.dp
 ws:d.ws=s.ws
 cs:d.cs=s.cs
 ns:d.ns=s.ns
 kl:d.ks.length=s.ks.length
 ks:∀ i,i<s.ks.length->(d.ks.getD i 0=0/\s.ks.getD i 0=1)\/(d.ks.getD i 0=K i/\s.ks.getD i 0=K i)
 h:d.h=(u:Int)
 top:d.top=(s.dp:Int)
 lg:d.lg=false
def Ry (K:Nat->Int)(u:Nat)(s:Em)(d:Dp):Prop:=(okQ s->Rl K u s d)/\(¬okQ s->d.lg=true)
theorem Ry.step {K:Nat->Int}{u v:Nat}{s t:Em}{d e:Dp}(h:Ry K u s d)(q:Qle s t)(k:d.lg=true->e.lg=true)(r:Rl K u s d->Ry K v t e):Ry K v t e:=by
 by_cases o:okQ s
 ·exact r (h.1 o)
 ·exact⟨fun o'=>absurd (q.ok o') o,fun _=>k (h.2 o)⟩
theorem Ry.of {K:Nat->Int}{u:Nat}{s:Em}{d:Dp}(h:Rl K u s d):Ry K u s d:=⟨fun _=>h,fun n=>absurd h.ok n⟩
theorem bI {K:Nat->Int}{u:Nat}{s:Em}{d:Dp}(op a a' b:Nat)(h:Ry K u s d)(ha:okQ s->a'=a):Ry K u (s.lay op a b) (d.puts op a' b):=by
 refine h.step (aN s op a b) (aq d op a' b).lg (fun r=>?_);rw[ha r.ok];unfold Dp.puts;rw[r.ws];by_cases hl:32768<=s.ws.length
 ·rw[if_pos hl];exact⟨fun o=>by have:=o.1;simp[Em.lay] at this;omega,fun _=>rfl⟩
 ·rw[if_neg hl];refine Ry.of ⟨⟨by simp[Em.lay];omega,r.ok.2⟩,r.ul,?_,r.cs,r.ns,r.kl,r.ks,r.h,r.top,r.lg⟩;simp[Em.lay]
def Em.up (s:Em)(u:Nat):Em:=⟨s.ws,s.cs,s.ns,s.ks,max s.dp (u+1)⟩
theorem zJ (s:Em)(op a b u:Nat):s.push op a b u=(s.lay op a b).up u:=rfl
theorem CP (s:Em)(u:Nat):Qle s (s.up u):=⟨Nat.le_refl _,by simp only[Em.up];omega⟩
theorem Eo {K:Nat->Int}{u:Nat}{s:Em}{d:Dp}(h:Ry K u s d):Ry K (u+1) (s.up u) (d.grows 1):=by
 refine h.step (CP s u) (aP d 1 1 (by omega) (by omega)).lg (fun r=>?_);have e1:max d.top (d.h+1)=((max s.dp (u+1):Nat):Int):=by rw[r.top,r.h];omega
 by_cases hm:max s.dp (u+1)<=1024
 ·refine Ry.of ⟨⟨r.ok.1,hm⟩,by simp only[Em.up];omega,r.ws,r.cs,r.ns,r.kl,r.ks,?_,?_,?_⟩
  ·simp only[Dp.grows];rw[r.h];omega
  ·simp only[Dp.grows];exact e1
  ·simp only[Dp.grows,r.lg,e1];simp;omega
 ·refine⟨fun o=>absurd o.2 hm,fun _=>?_⟩;simp only[Dp.grows,e1];simp;right;omega
theorem bW {K:Nat->Int}{u:Nat}{s:Em}{d:Dp}(v:Nat)(x:Int)(h:Ry K u s d)(hv:v<=u)(hx:x=(v:Int)-(u:Int)):Ry K v s (d.grows x):=by
 refine h.step (Qle.refl s) (fun h=>by simp[Dp.grows,h]) (fun r=>?_);have hu:=r.ul;have hd:=r.ok.2;have e1:max d.top (d.h+x)=(s.dp:Int):=by rw[r.top,r.h];omega
 refine Ry.of ⟨r.ok,by omega,r.ws,r.cs,r.ns,r.kl,r.ks,?_,?_,?_⟩
 ·simp only[Dp.grows];rw[r.h];omega
 ·simp only[Dp.grows];exact e1
 ·simp only[Dp.grows,r.lg,e1];simp;omega
theorem nY {K:Nat->Int}{u:Nat}{s:Em}{d:Dp}(op a a' b:Nat)(h:Ry K u s d)(ha:okQ s->a'=a):Ry K (u+1) (s.push op a b u) ((d.puts op a' b).grows 1):=by
 rw[zJ];exact Eo (bI op a a' b h ha)
theorem BL {K:Nat->Int}{u:Nat}{s:Em}{d:Dp}(n:Int)(h:Ry K u s d):Ry K u (s.kc n) (d.kI n):=by
 refine h.step (rk s n) (lS d n).lg (fun r=>?_);exact Ry.of ⟨r.ok,r.ul,r.ws,by simp only[Em.kc,Dp.kI,r.cs],r.ns,r.kl,r.ks,r.h,r.top,r.lg⟩
theorem DS {K:Nat->Int}{u:Nat}{s:Em}{d:Dp}(n:List UInt8)(h:Ry K u s d):Ry K u (s.kn n) (d.kN n):=by
 refine h.step (xl s n) (qK d n).lg (fun r=>?_);exact Ry.of ⟨r.ok,r.ul,r.ws,r.cs,by simp only[Em.kn,Dp.kN,r.ns],r.kl,r.ks,r.h,r.top,r.lg⟩
theorem fo {K:Nat->Int}{u:Nat}{s:Em}{d:Dp}(n:Int)(kd:Nat)(h:Ry K u s d):Ry K (u+1) (s.con n kd u) (d.val n kd) :=
 nY 1 _ _ kd (BL n h) (fun o=>by rw[(h.1 o).cs])
theorem gV {K:Nat->Int}{u:Nat}{s:Em}{d:Dp}(i i':Nat)(h:Ry K u s d)(hi:okQ s->i'=i):Ry K u (s.land i) (d.lands i'):=by
 refine h.step (eA s i) (aY d i').lg (fun r=>?_);rw[hi r.ok];unfold Dp.lands;rw[if_neg (by rw[r.lg];decide),r.ws];exact Ry.of ⟨⟨by simp[Em.land];exact r.ok.1,r.ok.2⟩,r.ul,rfl,r.cs,r.ns,r.kl,r.ks,r.h,r.top,r.lg⟩
theorem lC {l:List Int}{i j:Nat}{k x:Int}:(l.set i k).getD j x=if i=j/\i<l.length then k else l.getD j x:=by
 rw[List.getD_eq_getElem?_getD,List.getD_eq_getElem?_getD,List.getElem?_set];by_cases e:i=j
 ·subst e;by_cases hl:i<l.length
  ·rw[if_pos rfl,if_pos hl,if_pos ⟨rfl,hl⟩];rfl
  ·rw[if_pos rfl,if_neg hl,if_neg (fun h=>hl h.2),List.getElem?_eq_none (by omega)]
 ·rw[if_neg e,if_neg (fun h=>e h.1)]
theorem Ck {K:Nat->Int}{u:Nat}{s:Em}{d:Dp}(i:Nat)(k:Int)(h:Ry K u s d)(hk:k=K i):Ry K u (s.cel i k) (d.cel i k):=by
 refine h.step (tj s i k) (ow d i k).lg (fun r=>?_);subst hk;have hkl:=r.kl;unfold Dp.cel;by_cases h0:d.ks.getD i 0=0
 ·rw[if_pos h0];refine Ry.of ⟨r.ok,r.ul,r.ws,r.cs,r.ns,by simp[Em.cel];exact r.kl,fun j hj=>?_,r.h,r.top,r.lg⟩;simp only[Em.cel,List.length_set] at hj ⊢;rw[lC,lC];by_cases e:i=j
  ·subst e;rw[if_pos ⟨rfl,by omega⟩,if_pos ⟨rfl,by omega⟩];exact .inr ⟨rfl,rfl⟩
  ·rw[if_neg (fun h=>e h.1),if_neg (fun h=>e h.1)];exact r.ks j hj
 ·rw[if_neg h0];refine Ry.of ⟨r.ok,r.ul,r.ws,r.cs,r.ns,by simp[Em.cel];exact r.kl,fun j hj=>?_,r.h,r.top,r.lg⟩;simp only[Em.cel,List.length_set] at hj ⊢;rw[lC];by_cases e:i=j
  ·subst e;rw[if_pos ⟨rfl,hj⟩];rcases r.ks i hj with h1|h1
   ·exact absurd h1.1 h0
   ·exact .inr ⟨h1.1,rfl⟩
  ·rw[if_neg (fun h=>e h.1)];exact r.ks j hj
theorem jN {K:Nat->Int}{u:Nat}{s t:Em}{d:Dp}(h:Ry K u s d)(q:Qle s t)(hl:s.ws.length+1<=t.ws.length)(o:okQ t):d.at1=s.ws.length:=by
 have r:=h.1 (q.ok o);unfold Dp.at1;rw[r.ws,if_neg (by have:=o.1;omega)]
theorem wK {K:Nat->Int}{u:Nat}{s t:Em}{d:Dp}(h:Ry K u s d)(q:Qle s t)(o:okQ t):d.ws.length=s.ws.length:=by
 rw[(h.1 (q.ok o)).ws]
structure Rp (K:Nat->Int)(b:Nat)(t:Tr)(d:Td):Prop where
 q:Qtr t
 k:∀ ar s,s.lg=true->(d ar s).lg=true
 r:∀ ar u s e,Ry K u s e->Ry K (u+b) (t ar u s) (d ar e)
def Rps (K:Nat->Int):List Tr->List Td->Int->Nat->Prop
 | [],[],_,_=>True
 | t::T,d::D,pk,i=>Rp K (if pk=21/\i=0 then 0 else 1) t d/\Rps K T D pk (i+1)
 | _,_,_,_=>False
theorem yQ {K:Nat->Int}(ar u pk:Int)(hp:pk≠21):∀ (T:List Tr) (D:List Td) (i j ar u:Nat) (s:Em) (e:Dp),Rps K T D pk i->Ry K (u+j) s e->Ry K (u+j+T.length) (kH T j ar u s) (cR D ar e)
 | [],[],_,_,_,_,_,_,_,h=>h
 | t::T,d::D,i,j,ar,u,s,e,hT,h=>by
  have h1:=hT.1.r ar (u+j) s e h;rw[if_neg (fun h=>hp h.1)] at h1;have h2:=yQ 0 0 pk hp T D (i+1) (j+1) ar u _ _ hT.2 h1;simp only[List.length_cons,kH,cR];rw[show u+j+(T.length+1)=u+(j+1)+T.length by omega];exact h2
 | [],d::D,_,_,_,_,_,_,h,_=>by simp[Rps] at h
 | t::T,[],_,_,_,_,_,_,h,_=>by simp[Rps] at h
theorem la {K:Nat->Int}{pk:Int}:∀ (T:List Tr) (D:List Td) (i j:Nat),Rps K T D pk i->j<T.length->Rp K (if pk=21/\i+j=0 then 0 else 1) (T.getD j noT) (D.getD j noD)
 | t::T,d::D,i,0,h,_=>h.1
 | t::T,d::D,i,j+1,h,hj=>by
  have:=la T D (i+1) j h.2 (by simpa using hj)
  rw[show i+1+j=i+(j+1) by omega] at this;simpa using this
 | [],_,_,_,_,h=>by simp at h
 | t::T,[],_,_,h,_=>by simp[Rps] at h
theorem sU {K:Nat->Int}{pk:Int}:∀ (T:List Tr) (D:List Td) (i:Nat),Rps K T D pk i->D.length=T.length
 | [],[],_,_=>rfl
 | t::T,d::D,i,h=>by simp only[List.length_cons,sU T D (i+1) h.2]
 | [],d::D,_,h=>by simp[Rps] at h
 | t::T,[],_,h=>by simp[Rps] at h
theorem oF {K:Nat->Int}{u:Nat}(h:Nat):∀ (l:List Int) (i:Nat) (s:Em) (e:Dp),Ry K u s e->Ry K u (eB h l i s) (fB h l i e)
 | [],_,_,_,r=>r
 | x::l,i,s,e,r=>by
  unfold eB fB;refine r.step ?_ ?_ (fun q=>?_)
  ·split
   ·exact(aN s 19 i 0).trans (dY h l (i+1) _)
   ·exact dY h l (i+1) s
  ·intro hl;rw[if_pos hl];exact hl
  ·by_cases hx:x=(h:Int)
   ·rw[if_pos hx,if_neg (by rw[q.lg];decide),if_pos hx];exact oF h l (i+1) _ _ (bI 19 i i 0 r (fun _=>rfl))
   ·rw[if_neg hx,if_neg (by rw[q.lg];decide),if_neg hx];exact oF h l (i+1) _ _ r
theorem ib (s:Em)(op a b:Nat):(s.lay op a b).ws.length=s.ws.length+1:=by simp[Em.lay]
theorem AI (s:Em)(n:Int)(kd u:Nat):(s.con n kd u).ws.length=s.ws.length+1:=by simp[Em.con,Em.push,Em.kc]
theorem CN {K:Nat->Int}(k:Int){t0 t1 t2:Tr}{d0 d1 d2:Td}(h0:Rp K 1 t0 d0)(h1:Rp K 1 t1 d1)(h2:k≠17->k≠18->Rp K 1 t2 d2)(ar u:Nat)(s:Em)(e:Dp)(h:Ry K u s e) :
  Ry K (u+1) ((t0 ar u s).fork (if k=18 then 15 else 14) (t1 ar u) (fun x=>if k=17 then x.con 0 2 u else if k=18 then x.con 1 2 u else t2 ar u x)) (ya k d0 d1 d2 ar e):=by
 unfold Em.fork ya
 dsimp only
 generalize hop:(if k=18 then 15 else 14)=op;have ra:=h0.r ar u s e h;generalize t0 ar u s=A at ra ⊢;generalize d0 ar e=a at ra ⊢;have rb:Ry K u (A.lay op 0 0) ((a.puts op 0 0).grows (-1)):=bW u (-1) (bI op 0 0 0 ra (fun _=>rfl)) (by omega) (by omega);have rc:=h1.r ar u _ _ rb;have qc:=h1.q ar u (A.lay op 0 0);generalize t1 ar u (A.lay op 0 0)=C at rc qc ⊢;generalize d1 ar ((a.puts op 0 0).grows (-1))=c at rc ⊢;have rd:Ry K u (C.lay 13 0 0) ((c.puts 13 0 0).grows (-1)):=bW u (-1) (bI 13 0 0 0 rc (fun _=>rfl)) (by omega) (by omega);have hA:=ib A op 0 0;have hqc:=qc.ws;have re:=gV A.ws.length a.at1 rd (fun o=>jN ra (((aN A op 0 0).trans qc).trans (aN C 13 0 0)) (by rw[ib];omega) o);have qe:Qle C ((C.lay 13 0 0).land A.ws.length):=(aN C 13 0 0).trans (eA _ _);have le:C.ws.length+1<=((C.lay 13 0 0).land A.ws.length).ws.length:=by simp[Em.land,Em.lay]
 generalize (C.lay 13 0 0).land A.ws.length=E at re qe le ⊢;generalize ((c.puts 13 0 0).grows (-1)).lands a.at1=e' at re ⊢;have hf:Ry K (u+1) (if k=17 then E.con 0 2 u else if k=18 then E.con 1 2 u else t2 ar u E) (if k=17 then e'.val 0 2 else if k=18 then e'.val 1 2 else d2 ar e')/\Qle E (if k=17 then E.con 0 2 u else if k=18 then E.con 1 2 u else t2 ar u E):=by
  by_cases k17:k=17
  ·rw[if_pos k17,if_pos k17];exact⟨fo 0 2 re,cK _ _ _ _⟩
  ·rw[if_neg k17,if_neg k17];by_cases k18:k=18
   ·rw[if_pos k18,if_pos k18];exact⟨fo 1 2 re,cK _ _ _ _⟩
   ·rw[if_neg k18,if_neg k18];exact⟨(h2 k17 k18).r ar u _ _ re,(h2 k17 k18).q ar u E⟩
 exact gV _ _ hf.1 (fun o=>jN rc (qe.trans hf.2) (Nat.le_trans le hf.2.ws) o)
theorem AN {K:Nat->Int}(n:Nat)(kd:Int)(hkd:kd=K n){t0:Tr}{d0:Td}(h0:Rp K 1 t0 d0)(ar u:Nat)(s:Em)(e:Dp)(h:Ry K u s e) :
  Ry K (u+1) (((t0 ar u ((s.cel n kd).lay 17 n 0)).lay 18 n 0).land s.ws.length) (rL n kd d0 ar e):=by
 unfold rL;have rc:=Ck n kd h hkd;have ra:=bI 17 n n 0 rc (fun _=>rfl);have rb:=h0.r ar u _ _ ra;have qb:=h0.q ar u ((s.cel n kd).lay 17 n 0);have hA:=ib (s.cel n kd) 17 n 0;have hw:(s.cel n kd).ws.length=s.ws.length:=rfl;have hq:=qb.ws;refine gV _ _ (bI 18 n n 0 rb (fun _=>rfl)) (fun o=>?_);show _=(s.cel n kd).ws.length;exact jN rc (((aN _ _ _ _).trans qb).trans (aN _ _ _ _)) (by rw[ib];omega) o
theorem Ci {K:Nat->Int}(n:Int)(hn:n=1\/n=2)(g i g' i':Nat)(u:Nat)(X:Em)(e:Dp)(h:Ry K (u+1) X e)(hg:okQ X->g'=g/\i'=i) :
  Ry K (u+1) (((((((X.lay (if n=2 then 14 else 15) g 0).lay 25 0 0).con (if n=2 then 1 else 0) 2 u).lay 13 0 0).land i).con (if n=2 then 0 else 1) 2 u).land ((((X.lay (if n=2 then 14 else 15) g 0).lay 25 0 0).con (if n=2 then 1 else 0) 2 u).ws.length)) (oS n g' i' e):=by
 unfold oS
 dsimp only
 generalize (if n=2 then 14 else 15)=op;generalize (if n=2 then (1:Int) else 0)=x;generalize (if n=2 then (0:Int) else 1)=y;have ra:Ry K u (X.lay op g 0) ((e.puts op g' 0).grows (-1)):=bW u (-1) (bI op g g' 0 h (fun o=>(hg o).1)) (by omega) (by omega);have rb:=fo x 2 (bI 25 0 0 0 ra (fun _=>rfl));have qx:Qle X (((X.lay op g 0).lay 25 0 0).con x 2 u):=((aN _ _ _ _).trans (aN _ _ _ _)).trans (cK _ _ _ _);generalize ((X.lay op g 0).lay 25 0 0).con x 2 u=C at rb qx ⊢;generalize (((e.puts op g' 0).grows (-1)).puts 25 0 0).val x 2=c at rb ⊢;have rd:Ry K u (C.lay 13 0 0) ((c.puts 13 0 0).grows (-1)):=bW u (-1) (bI 13 0 0 0 rb (fun _=>rfl)) (by omega) (by omega);have re:=gV i i' rd (fun o=>(hg ((qx.trans (aN C 13 0 0)).ok o)).2);have rf:=fo y 2 re;refine gV _ _ rf (fun o=>jN rb (((aN C 13 0 0).trans (eA _ _)).trans (cK _ _ _ _)) ?_ o);rw[AI];simp[Em.land,Em.lay]
theorem CH {K:Nat->Int}(n:Int)(hn:3<=n)(g g' u v:Nat)(X:Em)(e:Dp)(h:Ry K (v+1) X e)(hv:v=if 5<=n then u+2 else u+1)(hg:okQ X->g'=g) :
  Ry K v (if n=3 then ((X.lay 14 g 0).con 1 1 (u+1)).lay 6 0 0 else if n=4 then X.lay 6 0 0 else X.lay 26 (n-5).toNat 0) (mJ n g' e):=by
 unfold mJ;by_cases h3:n=3
 ·rw[if_pos h3,if_pos h3];rw[if_neg (by omega)] at hv;subst hv;have ra:Ry K (u+1) (X.lay 14 g 0) ((e.puts 14 g' 0).grows (-1)):=bW (u+1) (-1) (bI 14 g g' 0 h hg) (by omega) (by omega);exact bW (u+1) (-1) (bI 6 0 0 0 (fo 1 1 ra) (fun _=>rfl)) (by omega) (by omega)
 ·rw[if_neg h3,if_neg h3];by_cases h4:n=4
  ·rw[if_pos h4,if_pos h4];exact bW v (-1) (bI 6 0 0 0 h (fun _=>rfl)) (by omega) (by omega)
  ·rw[if_neg h4,if_neg h4];exact bW v (-1) (bI 26 _ _ 0 h (fun _=>rfl)) (by omega) (by omega)
theorem sQ (n:Int)(g u:Nat)(X:Em):Qle X (if n=3 then ((X.lay 14 g 0).con 1 1 (u+1)).lay 6 0 0 else if n=4 then X.lay 6 0 0 else X.lay 26 (n-5).toNat 0):=by
 split
 ·exact((aN _ _ _ _).trans (cK _ _ _ _)).trans (aN _ _ _ _)
 split
 ·exact aN _ _ _ _
 ·exact aN _ _ _ _
theorem Cw {K:Nat->Int}(n:Int)(hn:3<=n)(g i g' i' u v:Nat)(X:Em)(e:Dp)(h:Ry K (v+1) X e)(hv:v=if 5<=n then u+2 else u+1)(hg:okQ X->g'=g/\i'=i) :
  Ry K (u+1) (if 5<=n then (((if n=3 then ((X.lay 14 g 0).con 1 1 (u+1)).lay 6 0 0 else if n=4 then X.lay 6 0 0 else X.lay 26 (n-5).toNat 0).lay 13 g 0).land i).lay 27 0 0
   else ((if n=3 then ((X.lay 14 g 0).con 1 1 (u+1)).lay 6 0 0 else if n=4 then X.lay 6 0 0 else X.lay 26 (n-5).toNat 0).lay 13 g 0).land i) (mI n g' i' e):=by
 unfold mI
 dsimp only
 have rm:=CH n hn g g' u v X e h hv (fun o=>(hg o).1);have qm:=sQ n g u X;generalize (if n=3 then ((X.lay 14 g 0).con 1 1 (u+1)).lay 6 0 0 else if n=4 then X.lay 6 0 0 else X.lay 26 (n-5).toNat 0)=M at rm qm ⊢;generalize mJ n g' e=m at rm ⊢;have rl:=gV i i' (bI 13 g g' 0 rm (fun o=>(hg (qm.ok o)).1)) (fun o=>(hg ((qm.trans (aN M 13 g 0)).ok o)).2);by_cases h5:5<=n
 ·rw[if_pos h5] at hv;rw[if_pos h5,if_pos h5];subst hv;exact bW (u+1) (-1) (bI 27 0 0 0 rl (fun _=>rfl)) (by omega) (by omega)
 ·rw[if_neg h5] at hv;rw[if_neg h5,if_neg h5];subst hv;exact rl
theorem Dx {K:Nat->Int}(n:Int)(u:Nat)(s:Em)(e:Dp)(h:Ry K u s e) :
  Ry K (if 5<=n then u+2 else if 3<=n then u+1 else u) (if 5<=n then (s.con 0 1 u).con 0 2 (u+1) else if 3<=n then s.con 0 1 u else s) (eF n e):=by
 unfold eF
 dsimp only
 by_cases h5:5<=n
 ·rw[if_pos h5,if_pos h5,if_pos h5,if_pos (by omega)];exact fo 0 2 (fo 0 1 h)
 ·rw[if_neg h5,if_neg h5,if_neg h5];by_cases h3:3<=n
  ·rw[if_pos h3,if_pos h3,if_pos h3];exact fo 0 1 h
  ·rw[if_neg h3,if_neg h3,if_neg h3];exact h
theorem Dj {K:Nat->Int}(lv:List Int)(n:Int)(hn:1<=n/\n<=6){t0 t1:Tr}{d0 d1:Td}(h0:Rp K 0 t0 d0)(h1:Rp K 1 t1 d1)(ar u:Nat)(s:Em)(e:Dp)(h:Ry K u s e) :
  Ry K (u+1) (qua lv n t0 t1 ar u s) (iF lv n d0 d1 ar e):=by
 have qq:∀ X:Em,Qle X (qua lv n (fun _ _ s=>s) t1 ar u X):=fun X=>sM lv n (a:=fun _ _ s=>s) (fun _ _=>Qgr.id) h1.q ar u X;have hx:qua lv n t0 t1 ar u s=qua lv n (fun _ _ s=>s) t1 ar u (t0 ar u s):=rfl;rw[hx];unfold iF
 dsimp only
 have ra:=h0.r ar u s e h;rw[Nat.add_zero] at ra;generalize t0 ar u s=A at ra ⊢;generalize d0 ar e=a at ra ⊢;have rb:=Dx n u A a ra;have hq:=qq A;unfold qua vX mN bdy Em.fork at hq ⊢
 dsimp only at hq ⊢
 by_cases hn2:n=1\/n=2
 ·rw[if_neg (show ¬5<=n by omega),if_neg (show ¬3<=n by omega),if_neg (show ¬5<=n by omega),if_neg (show ¬3<=n by omega)] at rb;have hR:Ry K (u+1) (((((((t1 (ar+1) u (eB (ar+1) lv 0 (A.lay 24 0 0))).lay (if n=2 then 14 else 15) A.ws.length 0).lay 25 0 0).con (if n=2 then 1 else 0) 2 u).lay 13 0 0).land A.ws.length).con (if n=2 then 0 else 1) 2 u |>.land ((((t1 (ar+1) u (eB (ar+1) lv 0 (A.lay 24 0 0))).lay (if n=2 then 14 else 15) A.ws.length 0).lay 25 0 0).con (if n=2 then 1 else 0) 2 u).ws.length)
    (if (eF n a).lg then eF n a else if n=1\/n=2 then oS n (eF n a).ws.length (eF n a).at1 (d1 (ar+1) (fB (ar+1) lv 0 ((eF n a).puts 24 0 0))) else mI n (eF n a).ws.length (eF n a).at1 (d1 (ar+1) (fB (ar+1) lv 0 ((eF n a).puts 24 0 0)))):=by
   refine rb.step ?_ (fun hl=>by rw[if_pos hl];exact hl) (fun q=>?_)
   ·rcases hn2 with e1|e1<;>subst e1<;>simpa using hq
   ·rw[if_neg (show ¬(eF n a).lg=true by rw[q.lg];decide),if_pos hn2];have rc:=oF (ar+1) lv 0 _ _ (bI 24 0 0 0 rb (fun _=>rfl));have qc:=(aN A 24 0 0).trans (dY (ar+1) lv 0 (A.lay 24 0 0));have lc:A.ws.length+1<=(eB (ar+1) lv 0 (A.lay 24 0 0)).ws.length:=by
     have:=(dY (ar+1) lv 0 (A.lay 24 0 0)).ws
     rw[ib] at this;exact this
    have rd:=h1.r (ar+1) u _ _ rc;have qd:=h1.q (ar+1) u (eB (ar+1) lv 0 (A.lay 24 0 0));exact Ci n hn2 _ _ _ _ u _ _ rd (fun o=>⟨wK rb (qc.trans qd) o,jN rb (qc.trans qd) (Nat.le_trans lc qd.ws) o⟩)
  rcases hn2 with e1|e1
  ·subst e1;simpa using hR
  ·subst e1;simpa using hR
 ·have h3:3<=n:=by omega
  have h1':¬n=1:=by omega
  have h2':¬n=2:=by omega
  simp only[h1',h2',if_false] at hq ⊢;obtain⟨v,hv⟩:∃v,v=if 5<=n then u+2 else u+1:=⟨_,rfl⟩
  obtain⟨B,hB⟩:∃B,B=(if 5<=n then (A.con 0 1 u).con 0 2 (u+1) else if 3<=n then A.con 0 1 u else A):=⟨_,rfl⟩
  have hv':(if 5<=n then u+2 else if 3<=n then u+1 else u)=v:=by rw[hv,if_pos h3]
  rw[hv',<-hB] at rb;have hR:Ry K (u+1) (if 5<=n then (((if n=3 then (((t1 (ar+1) v (eB (ar+1) lv 0 (B.lay 24 0 0))).lay 14 B.ws.length 0).con 1 1 (u+1)).lay 6 0 0 else if n=4 then (t1 (ar+1) v (eB (ar+1) lv 0 (B.lay 24 0 0))).lay 6 0 0 else (t1 (ar+1) v (eB (ar+1) lv 0 (B.lay 24 0 0))).lay 26 (n-5).toNat 0).lay 13 B.ws.length 0).land B.ws.length).lay 27 0 0
    else ((if n=3 then (((t1 (ar+1) v (eB (ar+1) lv 0 (B.lay 24 0 0))).lay 14 B.ws.length 0).con 1 1 (u+1)).lay 6 0 0 else if n=4 then (t1 (ar+1) v (eB (ar+1) lv 0 (B.lay 24 0 0))).lay 6 0 0 else (t1 (ar+1) v (eB (ar+1) lv 0 (B.lay 24 0 0))).lay 26 (n-5).toNat 0).lay 13 B.ws.length 0).land B.ws.length)
    (if (eF n a).lg then eF n a else mI n (eF n a).ws.length (eF n a).at1 (d1 (ar+1) (fB (ar+1) lv 0 ((eF n a).puts 24 0 0)))):=by
   have qc:=(aN B 24 0 0).trans (dY (ar+1) lv 0 (B.lay 24 0 0));have qd:=h1.q (ar+1) v (eB (ar+1) lv 0 (B.lay 24 0 0));refine rb.step ?_ (fun hl=>by rw[if_pos hl];exact hl) (fun q=>?_)
   ·have qm:=((((qc.trans qd).trans (sQ n B.ws.length u _)).trans (aN _ 13 B.ws.length 0)).trans (eA _ B.ws.length))
    split
    ·exact qm.trans (aN _ _ _ _)
    ·exact qm
   ·rw[if_neg (show ¬(eF n a).lg=true by rw[q.lg];decide)];have rc:=oF (ar+1) lv 0 _ _ (bI 24 0 0 0 rb (fun _=>rfl));have lc:B.ws.length+1<=(eB (ar+1) lv 0 (B.lay 24 0 0)).ws.length:=by
     have:=(dY (ar+1) lv 0 (B.lay 24 0 0)).ws
     rw[ib] at this;exact this
    have rd:=h1.r (ar+1) v _ _ rc;exact Cw n h3 _ _ _ _ u v _ _ rd hv (fun o=>⟨wK rb (qc.trans qd) o,jN rb (qc.trans qd) (Nat.le_trans lc qd.ws) o⟩)
  have hn6:n=3\/n=4\/n=5\/n=6:=by omega
  rcases hn6 with e1|e1|e1|e1<;>subst e1<;>simp at hv hB<;>subst hv<;>subst hB<;>simpa using hR
def skF (K:Nat->Int):Fs->Int->Nat->Prop
 | ⟨none⟩,_,_=>True
 | ⟨some ⟨k,n,nm,a,ks,r⟩⟩,pk,i=>((22<=k/\k<=25) ↔ (pk=21/\i=0))/\(k=26->(kdF ks).getD 0 0=K n.toNat)/\skF K ks k 0/\skF K r pk (i+1)
def skE (K:Nat->Int)(e:Ex):Prop:=¬(22<=e.k/\e.k<=25)/\(e.k=26->(kdF e.kids).getD 0 0=K e.n.toNat)/\skF K e.kids e.k 0
theorem l9:∀ f:Fs,(kdF f).length=f.len
 | ⟨none⟩=>rfl
 | ⟨some ⟨k,n,nm,a,ks,r⟩⟩=>by simp only[kdF,Fs.len,List.length_cons,l9 r]
theorem n7 (lv:List Int):∀ f:Fs,(emF lv f).length=f.len
 | ⟨none⟩=>rfl
 | ⟨some ⟨k,n,nm,a,ks,r⟩⟩=>by simp only[emF,Fs.len,List.length_cons,n7 lv r]
theorem mf {k n:Int}{nm:List UInt8}{len:Nat}(h:aD k n nm len=true):(k=6\/k=7\/k=24->len=1)/\(8<=k->k<=18->len=2)/\(k=19->len=3)/\(k=20->1<=len/\len<=2)/\(k=21->len=2/\1<=n/\n<=6)/\(k=22\/k=23->len=0)/\(k=26->len=1)/\(k=1\/k=2\/k=3\/(5<=k/\k<=26)):=by
 unfold aD at h;refine⟨fun e=>?_,fun e1 e2=>?_,fun e=>?_,fun e=>?_,fun e=>?_,fun e=>?_,fun e=>?_,?_⟩
 ·rcases e with rfl|rfl|rfl<;>simp at h<;>omega
 ·rw[if_neg (by omega),if_neg (by omega),if_neg (by omega),if_neg (by omega),if_pos (by omega)] at h;simp at h;omega
 ·subst e;simp at h;omega
 ·subst e;simp at h;omega
 ·subst e;simp at h;omega
 ·rcases e with rfl|rfl<;>simp at h<;>omega
 ·subst e;simp at h;omega
 ·apply Classical.byContradiction;intro hc
  repeat rw[if_neg (by omega)] at h
  cases h
theorem yD (K:Nat->Int)(lv:List Int)(nc:Nat)(k n:Int)(nm:List UInt8)(kk:List Int)(T:List Tr)(D:List Td)(len b:Nat)(hN:aD k n nm len=true)(hT:Rps K T D k 0)(hl:T.length=len)(hkk:kk.length=len)(hb:b=if 22<=k/\k<=25 then 0 else 1)(hc:k=26->kk.getD 0 0=K n.toNat)(hq:Qtr (prt lv k n nm kk T))(hk:∀ ar s,s.lg=true->(lm lv k n nm kk D ar s).lg=true) :
  Rp K b (prt lv k n nm kk T) (lm lv k n nm kk D):=by
 refine⟨hq,hk,fun ar u s e h=>h.step (hq ar u s) (hk ar e) (fun r=>?_)⟩;subst hb;have hDl:=sU T D 0 hT;obtain⟨l1,l2,l3,l4,l5,l6,l7,l8⟩:=mf hN;have kseq:k≠21->Ry K (u+T.length) (kH T 0 ar u s) (cR D ar e):=fun hk=>by
  have:=yQ 0 0 k hk T D 0 0 ar u s e hT h
  rw[Nat.add_zero] at this;exact this
 have kget:∀ j,j<T.length->k≠21->Rp K 1 (T.getD j noT) (D.getD j noD):=fun j hj hk=>by
  have:=la T D 0 j hT hj
  rw[if_neg (fun h=>hk h.1)] at this;exact this
 have hlg:¬(e.lg=true):=by rw[r.lg];decide
 by_cases hs:22<=k/\k<=25
 ·unfold prt lm;rw[if_pos hs,if_pos hs,if_neg (by omega),if_neg (by omega),if_neg (by omega),if_neg (by omega),if_neg (by omega),if_neg (by omega),if_neg (by omega),if_neg (by omega),if_neg (by omega),Nat.add_zero];have hseq:=kseq (by omega);generalize kH T 0 ar u s=A at hseq ⊢;unfold vI opr
  dsimp only
  generalize cR D ar e=a at hseq ⊢;rw[if_neg (by omega),if_neg (by omega),if_neg (by omega),if_neg (by omega),if_neg (by omega)];by_cases e22:k=22
  ·subst e22;have h0:=l6 (.inl rfl);rw[if_neg (by omega),if_neg (by omega),if_pos rfl];exact bW u _ (bI 20 0 0 0 hseq (fun _=>rfl)) (by omega) (by omega)
  ·by_cases e23:k=23
   ·subst e23;have h0:=l6 (.inr rfl);rw[if_pos rfl,if_neg (by omega),if_pos rfl];exact bW u _ (bI 21 _ _ 0 (DS nm hseq) (fun o=>by rw[(hseq.1 o).ns])) (by omega) (by omega)
   ·rw[if_neg e23,if_neg e22,if_neg e23];by_cases e24:k=24
    ·subst e24;rw[if_neg (by omega),if_pos rfl];exact bW u _ (bI 22 0 0 0 hseq (fun _=>rfl)) (by omega) (by omega)
    ·have e25:k=25:=by omega
     subst e25;rw[if_pos rfl,if_neg (by omega)];exact bW u _ (bI 23 kk.length D.length 0 hseq (fun _=>by omega)) (by omega) (by omega)
 ·unfold prt lm;rw[if_neg hs,if_neg hs,if_neg hlg];by_cases e1:k=1
  ·rw[if_pos e1,if_pos e1];exact fo n 1 h
  rw[if_neg e1,if_neg e1];by_cases e2:k=2
  ·rw[if_pos e2,if_pos e2];exact fo n 2 h
  rw[if_neg e2,if_neg e2];by_cases e3:k=3
  ·rw[if_pos e3,if_pos e3];exact nY 2 _ _ 0 (BL n h) (fun o=>by rw[(h.1 o).cs])
  rw[if_neg e3,if_neg e3];by_cases e5:k=5
  ·rw[if_pos e5,if_pos e5];exact nY 3 _ _ 0 h (fun _=>rfl)
  rw[if_neg e5,if_neg e5];by_cases e6:6<=k/\k<=12
  ·rw[if_neg (by omega),if_neg (by omega),if_neg (by omega),if_neg (by omega),if_neg (by omega),if_pos e6];have hseq:=kseq (by omega);unfold opr;rw[if_neg (by omega),if_neg (by omega),if_neg (by omega),if_neg (by omega),if_neg (by omega),if_neg (by omega),if_neg (by omega)];by_cases e67:k=6\/k=7
   ·have:=l1 (by omega)
    rw[if_pos e67];exact bW (u+1) _ (bI (fx k) 0 0 0 hseq (fun _=>rfl)) (by omega) (by omega)
   ·have:=l2 (by omega) (by omega)
    rw[if_neg e67];exact bW (u+1) _ (bI (fx k) 0 0 0 hseq (fun _=>rfl)) (by omega) (by omega)
  rw[if_neg e6];by_cases e13:13<=k/\k<=16
  ·rw[if_neg (by omega),if_neg (by omega),if_neg (by omega),if_neg (by omega),if_neg (by omega),if_pos e13];have hseq:=kseq (by omega)
   have:=l2 (by omega) (by omega)
   unfold opr uP;by_cases k13:k=13
   ·rw[if_pos k13,if_pos k13];exact bW (u+1) _ (bI 11 0 0 _ hseq (fun _=>rfl)) (by omega) (by omega)
   rw[if_neg k13,if_neg k13];by_cases k14:k=14
   ·rw[if_pos k14,if_pos k14];exact bW (u+1) _ (bI 5 0 0 0 (bI 11 0 0 _ hseq (fun _=>rfl)) (fun _=>rfl)) (by omega) (by omega)
   rw[if_neg k14,if_neg k14];by_cases k15:k=15
   ·rw[if_pos k15,if_pos k15];exact bW (u+1) _ (bI 12 0 0 0 hseq (fun _=>rfl)) (by omega) (by omega)
   rw[if_neg k15,if_neg k15,if_pos (by omega)];exact bW (u+1) _ (bI 12 0 0 1 hseq (fun _=>rfl)) (by omega) (by omega)
  rw[if_neg e13];by_cases e20:k=20
  ·rw[if_neg (by omega),if_neg (by omega),if_neg (by omega),if_neg (by omega),if_neg (by omega),if_pos e20];have hseq:=kseq (by omega)
   have:=l4 e20
   unfold opr;rw[if_neg (by omega),if_neg (by omega),if_neg (by omega),if_neg (by omega),if_pos e20];exact bW (u+1) _ (bI 16 _ _ 0 hseq (fun _=>rfl)) (by omega) (by omega)
  rw[if_neg e20];by_cases e26:k=26
  ·rw[if_neg (by omega),if_neg (by omega),if_neg (by omega),if_pos e26,if_pos e26]
   have:=l7 e26
   exact AN n.toNat _ (hc e26) (kget 0 (by omega) (by omega)) ar u s e h
  rw[if_neg e26];by_cases e21:k=21
  ·rw[if_neg (by omega),if_neg (by omega),if_neg (by omega),if_neg e26,if_pos e21,if_pos e21];have h5:=l5 e21;have g0:=la T D 0 0 hT (by omega);have g1:=la T D 0 1 hT (by omega);rw[if_pos ⟨e21,rfl⟩] at g0;rw[if_neg (by omega)] at g1;exact Dj lv n h5.2 g0 g1 ar u s e h
  rw[if_neg e21];have hk3:k=17\/k=18\/k=19:=by omega
  have g0:=kget 0 (by rcases hk3 with e|e|e<;>first|(have:=l2 (by omega) (by omega);omega)|(have:=l3 e;omega)) (by omega);have g1:=kget 1 (by rcases hk3 with e|e|e<;>first|(have:=l2 (by omega) (by omega);omega)|(have:=l3 e;omega)) (by omega);have hcho:=CN k g0 g1 (fun h1 h2=>kget 2 (by have:=l3 (by omega);omega) (by omega)) ar u s e h;rcases hk3 with e|e|e<;>subst e<;>simpa using hcho
theorem xJ (K:Nat->Int)(lv:List Int)(nc:Nat):∀ (f:Fs) (pk:Int) (i:Nat),skF K f pk i->okF nc f->Rps K (emF lv f) (deF lv f) pk i
 | ⟨none⟩,_,_,_,_=>trivial
 | ⟨some ⟨k,n,nm,a,ks,r⟩⟩,pk,i,h,ho=>by
  obtain⟨h1,h2,h3,h4⟩:=h;refine⟨?_,xJ K lv nc r pk (i+1) h4 ho.2.2⟩;refine yD K lv nc k n nm (kdF ks) (emF lv ks) (deF lv ks) ks.len _ ho.1.1 (xJ K lv nc ks k 0 h3 ho.2.1) (n7 lv ks) (l9 ks) ?_ h2 (oj lv k n nm (kdF ks) (kW lv ks)) (fun ar s=>(oH lv k n nm (kdF ks) (deF lv ks) ks (jE lv ks) ar s).lg);by_cases hs:22<=k/\k<=25
  ·rw[if_pos hs,if_pos (h1.1 hs)]
  ·rw[if_neg hs,if_neg (fun h=>hs (h1.2 h))]
theorem rp_E (K:Nat->Int)(lv:List Int)(nc:Nat)(e:Ex)(h:skE K e)(ho:okE nc e):Rp K 1 (emE lv e) (deE lv e) :=
 yD K lv nc e.k e.n e.nm (kdF e.kids) (emF lv e.kids) (deF lv e.kids) e.kids.len 1 ho.1.1 (xJ K lv nc e.kids e.k 0 h.2.2 ho.2) (n7 lv e.kids) (l9 e.kids) (by rw[if_neg h.1]) h.2.1 (oj lv e.k e.n e.nm (kdF e.kids) (kW lv e.kids)) (fun ar s=>(bQ lv e ar s).lg)
def de0 (lv:List Int):Dp:=⟨[],[],[],List.replicate lv.length 0,0,0,false⟩
def deA (lv:List Int)(e:Ex):Dp:=(deE lv e 0 (de0 lv)).puts 0 0 0
theorem ry_A (K:Nat->Int)(lv:List Int)(nc:Nat)(e:Ex)(h:skE K e)(ho:okE nc e):Ry K 1 (emA lv e) (deA lv e):=by
 have h0:Ry K 0 (em0 lv) (de0 lv):=by
  refine Ry.of ⟨⟨by simp[em0],by simp[em0]⟩,Nat.zero_le _,rfl,rfl,rfl,by simp[de0,em0],fun i hi=>?_,rfl,rfl,rfl⟩;simp only[em0,List.length_replicate] at hi
  left
  simp only[de0,em0];simp[hi,List.getD_eq_getElem?_getD,List.getElem?_replicate]
 exact bI 0 0 0 0 ((rp_E K lv nc e h ho).r 0 0 _ _ h0) (fun _=>rfl)
open Go.ChangeShapes Go.WideShapes Go.ChangeAt Go.RowKit
theorem gS {K:Nat->Int}{x:Ex}{r:Fs}{pk:Int}(hp:pk≠21)(h:skF K (Fs.ex x r) pk 0):skE K x:=⟨fun hs=>hp (h.1.1 hs).1,h.2.1,h.2.2.1⟩
theorem kR {K:Nat->Int}{x y:Ex}{r:Fs}{pk:Int}(hp:pk≠21)(h:skF K (Fs.ex x (Fs.ex y r)) pk 0):skE K y:=⟨fun hs=>hp (h.2.2.2.1.1 hs).1,h.2.2.2.2.1,h.2.2.2.2.2.1⟩
theorem uv (n:Int)(h:1<=n/\n<=10):fS n=qk n:=by
 have hc:n=1\/n=2\/n=3\/n=4\/n=5\/n=6\/n=7\/n=8\/n=9\/n=10:=by omega
 rcases hc with rfl|rfl|rfl|rfl|rfl|rfl|rfl|rfl|rfl|rfl<;>rfl
theorem rB (n:Int)(h:1<=n/\n<=6):cm n=qi n:=by
 have hc:n=1\/n=2\/n=3\/n=4\/n=5\/n=6:=by omega
 rcases hc with rfl|rfl|rfl|rfl|rfl|rfl<;>rfl
theorem tQ (K:Nat->Int)(nc N:Nat):∀ (e:Ex) (ao:Option Addr) (cap:Nat) (w:World),e.kids.size<N->okE nc e->skE K e->SnA w e.kids ao ->
  Calls Tryz.prog 137 #[exN e ao cap] w fun r w'=>r=.returned (.int .i64 (kdE e))/\Below w.heap.size w w':=by
 induction N with
 | zero=>intro e ao cap w hs;omega
 | succ N ih =>
  intro e ao cap w hs ho hsk S;obtain⟨k,n,nm,a,ks⟩:=e;obtain⟨⟨hd,-,-⟩,hk⟩:=ho;obtain⟨hsk1,-,hsk2⟩:=hsk;simp only at hs hd hk S hsk1 hsk2;rw[ah];simp only;have hdl:=gX hd;by_cases h19:k=19
  ·subst h19;have hlen:ks.len=3:=hdl.1 rfl;rw[hlen];obtain⟨x,y,z,hks⟩:=gZ hlen;have S':=S;rw[hks] at S' hk hs hsk2;obtain⟨w1,hw1⟩:∃w1,w1=w.alloc (.cells #[.int .i64 19,.int .i64 n,stv nm,.slice ao 3 cap] 34):=⟨_,rfl⟩
   obtain⟨g,hg⟩:∃g,g=w.heap.size:=⟨_,rfl⟩
   have B1:Below w.heap.size w w1:=by rw[hw1];exact b1 _ _
   have C1:w1.heap[g]?=some (.cells #[.int .i64 19,.int .i64 n,stv nm,.slice ao 3 cap] 34):=by rw[hw1,hg];exact heap_alloc_new _ _
   obtain⟨⟨c0,c1,c2,c3⟩,-⟩:=as C1;have HG:=Lib.hid hg;have HB:=Lib.hid B1;obtain⟨b,off,ak,ck,rfl,x0,x1,x2,x3,Sy⟩:=BJ (S'.below B1);have hv:kdE ⟨19,n,nm,a,ks⟩=kdE y:=by simp only[kdE,hks,iD];simp[kdN]
   rw[hv];have HC:=ih y ak ck w1 (by simp only[aV] at hs;omega) (aK (aK hk).2).1 (kR (by omega) hsk2) Sy;rw[ah] at HC;clear B1 S S' hks hk hs hg C1 hv hdl hd hsk1 hsk2;go_enter Tryz.func137,Tryz.ntmps137;go_upto_region 1 with fail;rw[<-hw1,<-HG.out];clear hw1;go_wp2_with fail;refine HC.mono ?_;rintro r w2 ⟨rfl,B2⟩;go_wp2;go_ret;exact⟨rfl,HB.out.trans (B2.mono HB.out.size)⟩
  by_cases h26:k=26
  ·subst h26;have hlen:ks.len=1:=hdl.2.1 rfl;rw[hlen];obtain⟨x,hks⟩:=ju hlen;have S':=S;rw[hks] at S' hk hs hsk2;obtain⟨w1,hw1⟩:∃w1,w1=w.alloc (.cells #[.int .i64 26,.int .i64 n,stv nm,.slice ao 1 cap] 34):=⟨_,rfl⟩
   obtain⟨g,hg⟩:∃g,g=w.heap.size:=⟨_,rfl⟩
   have B1:Below w.heap.size w w1:=by rw[hw1];exact b1 _ _
   have C1:w1.heap[g]?=some (.cells #[.int .i64 26,.int .i64 n,stv nm,.slice ao 1 cap] 34):=by rw[hw1,hg];exact heap_alloc_new _ _
   obtain⟨⟨c0,c1,c2,c3⟩,-⟩:=as C1;have HG:=Lib.hid hg;have HB:=Lib.hid B1;obtain⟨b,off,ak,ck,rfl,x0,x1,x2,x3,Sy⟩:=sR (S'.below B1);have hv:kdE ⟨26,n,nm,a,ks⟩=kdE x:=by simp only[kdE,hks,iD];simp[kdN]
   rw[hv];have HC:=ih x ak ck w1 (by simp only[aV] at hs;omega) (aK hk).1 (gS (by omega) hsk2) Sy;rw[ah] at HC;clear B1 S S' hks hk hs hg C1 hv hdl hd hsk1 hsk2;go_enter Tryz.func137,Tryz.ntmps137;go_upto_region 1 with fail;rw[<-hw1,<-HG.out];clear hw1;go_wp2_with fail;refine HC.mono ?_;rintro r w2 ⟨rfl,B2⟩;go_wp2;go_ret;exact⟨rfl,HB.out.trans (B2.mono HB.out.size)⟩
  by_cases h20:k=20
  ·subst h20;have hv:kdE ⟨20,n,nm,a,ks⟩=qk n:=by simp[kdE,kdN]
   rw[hv];obtain⟨w1,hw1⟩:∃w1,w1=w.alloc (.cells #[.int .i64 20,.int .i64 n,stv nm,.slice ao ks.len cap] 34):=⟨_,rfl⟩
   obtain⟨g,hg⟩:∃g,g=w.heap.size:=⟨_,rfl⟩
   have B1:Below w.heap.size w w1:=by rw[hw1];exact b1 _ _
   have C1:w1.heap[g]?=some (.cells #[.int .i64 20,.int .i64 n,stv nm,.slice ao ks.len cap] 34):=by rw[hw1,hg];exact heap_alloc_new _ _
   obtain⟨⟨c0,c1,c2,c3⟩,-⟩:=as C1;have HG:=Lib.hid hg;have HB:=Lib.hid B1;have HC:=oB n w1;rw[uv n (hdl.2.2.2.2.1 rfl)] at HC;clear B1 S hk hs hg C1 hv hdl hd hsk1 hsk2;go_enter Tryz.func137,Tryz.ntmps137;go_upto_region 1 with fail;rw[<-hw1,<-HG.out];clear hw1;go_wp2_with fail;refine HC.mono ?_;rintro r w2 ⟨rfl,hww⟩;subst hww;go_wp2;go_ret;exact⟨rfl,HB.out⟩
  by_cases h21:k=21
  ·subst h21;have hv:kdE ⟨21,n,nm,a,ks⟩=qi n:=by simp[kdE,kdN]
   rw[hv];obtain⟨w1,hw1⟩:∃w1,w1=w.alloc (.cells #[.int .i64 21,.int .i64 n,stv nm,.slice ao ks.len cap] 34):=⟨_,rfl⟩
   obtain⟨g,hg⟩:∃g,g=w.heap.size:=⟨_,rfl⟩
   have B1:Below w.heap.size w w1:=by rw[hw1];exact b1 _ _
   have C1:w1.heap[g]?=some (.cells #[.int .i64 21,.int .i64 n,stv nm,.slice ao ks.len cap] 34):=by rw[hw1,hg];exact heap_alloc_new _ _
   obtain⟨⟨c0,c1,c2,c3⟩,-⟩:=as C1;have HG:=Lib.hid hg;have HB:=Lib.hid B1;have HC:=nX n w1;rw[rB n (hdl.2.2.2.1 rfl).2] at HC;clear B1 S hk hs hg C1 hv hdl hd hsk1 hsk2;go_enter Tryz.func137,Tryz.ntmps137;go_upto_region 1 with fail;rw[<-hw1,<-HG.out];clear hw1;go_wp2_with fail;refine HC.mono ?_;rintro r w2 ⟨rfl,hww⟩;subst hww;go_wp2;go_ret;exact⟨rfl,HB.out⟩
  have hc:k=1\/k=2\/k=3\/k=5\/k=6\/k=7\/k=8\/k=9\/k=10\/k=11\/k=12\/k=13\/k=14\/k=15\/k=16\/k=17\/k=18:=by
   have:=dI hd
   omega
  obtain⟨w1,hw1⟩:∃w1,w1=w.alloc (.cells #[.int .i64 k,.int .i64 n,stv nm,.slice ao ks.len cap] 34):=⟨_,rfl⟩
  obtain⟨g,hg⟩:∃g,g=w.heap.size:=⟨_,rfl⟩
  have B1:Below w.heap.size w w1:=by rw[hw1];exact b1 _ _
  have C1:w1.heap[g]?=some (.cells #[.int .i64 k,.int .i64 n,stv nm,.slice ao ks.len cap] 34):=by rw[hw1,hg];exact heap_alloc_new _ _
  obtain⟨⟨c0,c1,c2,c3⟩,-⟩:=as C1;have HG:=Lib.hid hg;have HB:=Lib.hid B1;clear B1 S hk hs hg C1 hd hdl ih h19 h26 h20 h21 hsk1 hsk2;rcases hc with rfl|rfl|rfl|rfl|rfl|rfl|rfl|rfl|rfl|rfl|rfl|rfl|rfl|rfl|rfl|rfl|rfl 
  all_goals
   go_enter Tryz.func137,Tryz.ntmps137;go_upto_region 1 with fail;rw[<-hw1,<-HG.out];clear hw1;go_wp2;go_ret;exact⟨rfl,HB.out⟩
def DX (w:World)(o:Nat->Nat)(p4:Value)(lv:List Int):Prop :=
 ∃ao cap,p4=.slice ao lv.length cap/\(lv=[]\/∃b off,ao=some ⟨b,off,none⟩/\o b=0/\b<w.heap.size/\∀ j x,lv[j]?=some x->w.cell? ⟨b,off+j,none⟩=some (.int .i64 x))
theorem DX.step {I:Nat->Prop}{w w':World}{o o':Nat->Nat}{p4:Value}{lv:List Int}(h:DX w o p4 lv)(x:aa I w o w' o')(hi:¬I 0):DX w' o' p4 lv:=by
 obtain⟨ao,cap,h6,h7⟩:=h;refine⟨ao,cap,h6,?_⟩;rcases h7 with h7|⟨b,off,e1,e2,e3,e4⟩
 ·exact .inl h7
 ·exact .inr ⟨b,off,e1,(x.lab b e3).trans e2,Nat.lt_of_lt_of_le e3 x.size,fun j y hy=>(World.cell?_of_block (a:=⟨b,off+j,none⟩) (x.block b e3 (by rw[e2];exact hi))).trans (e4 j y hy)⟩
def eu (K:Nat->Int)(nc N:Nat):Prop:=∀ (e:Ex) (ao:Option Addr) (cap ar:Nat) (w:World) (o:Nat->Nat) (rb:Nat) (p0 p1 p2 p3 p4:Value) (lv:List Int) (s:Dp) (m:Nat),
 e.kids.size<N->okE nc e->skE K e->lv.length=nc->nc<=256->ar+e.kids.size<=1000000->e.kids.size<=100000->SnO w o e.kids ao->s.ks.length=nc->s.sz m->m+(17*e.kids.size+16)<=100000000->DX w o p4 lv->DW w o rb p0 p1 p2 p3 p4 s ->
 Calls Tryz.prog 40 #[pt0 rb,exN e ao cap,.int .i64 (ar:Nat)] w (cH w o rb p0 p1 p2 p3 p4 (deE lv e ar s) (.tuple #[]))
theorem dl {w:World}{o:Nat->Nat}{rb:Nat}{p0 p1 p2 p3 p4:Value}{s:Dp}{lv:List Int}{ks:Fs}{ao:Option Addr}(c:Array Value)(h:DW w o rb p0 p1 p2 p3 p4 s)(X:DX w o p4 lv)(S:SnO w o ks ao) :
  ∃w1 o1 g,w1=w.alloc (.cells c 34)/\Hid (g=w.heap.size)/\Blk w1 o1 0 g (.cells c 34)/\DW w1 o1 rb p0 p1 p2 p3 p4 s/\DX w1 o1 p4 lv/\SnO w1 o1 ks ao/\aa I17 w o w1 o1 :=
 have s0:∀ {I:Nat->Prop},aa I w o (w.alloc (.cells c 34)) (ae w o 0):=fun {I}=>dJ o (b1 _ _)
 ⟨_,ae w o 0,w.heap.size,rfl,rfl,⟨heap_alloc_new _ _,ax (Nat.le_refl _)⟩,h.step (s0 (I:=fun _=>False)) noF,X.step (s0 (I:=fun _=>False)) id,S.stepO (s0 (I:=fun _=>False)) id,s0⟩
theorem dm {w1:World}{o1:Nat->Nat}{g:Nat}{x0 x1 x2 x3:Value}(h:Blk w1 o1 0 g (.cells #[x0,x1,x2,x3] 34)):Hid (∀ w' o',aa I17 w1 o1 w' o'->w'.cell? ⟨g,0,none⟩=some x0/\w'.cell? ⟨g,1,none⟩=some x1/\w'.cell? ⟨g,2,none⟩=some x2/\w'.cell? ⟨g,3,none⟩=some x3) :=
 fun w' o' S=>(as (h.step S aA).1).1
theorem DW.cl {w:World}{o:Nat->Nat}{rb:Nat}{p0 p1 p2 p3 p4:Value}{s:Dp}(h:DW w o rb p0 p1 p2 p3 p4 s):w.cell? ⟨rb,11,none⟩=some (.bool s.lg)/\w.cell? ⟨rb,4,none⟩=some p4:=by
 obtain⟨wl,vc,vn,vk,vw,q0,-⟩:=h;obtain⟨⟨c4,c5,c6,c7,c8,c9,c10,c11⟩,cf⟩:=bV q0.1;exact⟨c11,c4⟩
theorem xD {lv:List Int}{e:Ex}{ar:Nat}{s:Dp}(h:¬(22<=e.k/\e.k<=25))(hl:s.lg=true):deE lv e ar s=s:=by
 unfold deE lm;rw[if_neg h,if_pos hl]
theorem pE {K:Nat->Int}{pk:Int}{lv:List Int}{ar:Nat}{s:Dp}(hp:pk≠21)(hl:s.lg=true):∀ (f:Fs) (i:Nat),skF K f pk i->cR (deF lv f) ar s=s
 | ⟨none⟩,i,h=>rfl
 | ⟨some ⟨k,n,nm,a,ks,r⟩⟩,i,h=>by
  have e1:deF lv ⟨some ⟨k,n,nm,a,ks,r⟩⟩=deE lv ⟨k,n,nm,a,ks⟩::deF lv r:=rfl;rw[e1,cR,xD (fun hs=>hp (h.1.1 hs).1) hl,pE hp hl r (i+1) h.2.2.2]
theorem n6 (K:Nat->Int)(nc N:Nat)(HP:eu K nc N)(k n:Int)(nm:List UInt8)(a:Int)(ks:Fs)(ao:Option Addr)(cap ar:Nat)(w:World)(o:Nat->Nat)(rb:Nat)(p0 p1 p2 p3 p4:Value)(lv:List Int)(s:Dp)(m:Nat)
  (hN:ks.size<=N) (ho:okF nc ks) (h21:k≠21) (hsk:skF K ks k 0) (hlv:lv.length=nc) (hnc:nc<=256) (har:ar+ks.size<=1000000) (hsz:ks.size<=100000) (S:SnO w o ks ao) (hks:s.ks.length=nc) (hz:s.sz m) (hm:m+17*ks.size<=100000000) (X:DX w o p4 lv) (h:DW w o rb p0 p1 p2 p3 p4 s) :
  Calls Tryz.prog 78 #[pt0 rb,exN ⟨k,n,nm,a,ks⟩ ao cap,.int .i64 (ar:Nat)] w (cH w o rb p0 p1 p2 p3 p4 (cR (deF lv ks) ar s) (.tuple #[])):=by
 obtain⟨w1,o1,g,hw1,HG,B1,E1,X1,SN1,S0⟩:=dl #[.int .i64 k,.int .i64 n,stv nm,.slice ao ks.len cap] h X S;have KK:=dm B1;have hlz:=eS ks;obtain⟨W,hW⟩:∃W,W=cR (deF lv ks) ar s:=⟨_,rfl⟩
 have HW:Hid (W=cR (deF lv ks) ar s):=hW;rw[<-hW];clear hW B1 h X S;rw[ah];obtain⟨c0,c1,c2,c3⟩:=KK.out _ _ (aa.refl I17 w1 o1);obtain⟨l1,-⟩:=E1.cl;simp only;go_enter Tryz.func78,Tryz.ntmps78;go_upto_region 1 with fail;rw[<-hw1,<-HG.out];clear hw1;go_wp2_with fail;go_loopw [6] (fun vi wr=>∃(d r:Fs) (s':Dp) (o':Nat->Nat),Hid (ks=d.app r)/\vi=.int .i64 (d.len:Nat)/\DW wr o' rb p0 p1 p2 p3 p4 s'/\aa I17 w1 o1 wr o'/\Dle (17*d.size) s s'/\Hid (W=cR (deF lv r) ar s')/\Hid (skF K r k d.len)) (fun vi _=>ks.len-(intOf vi).toNat)
 case atStart=>exact⟨.nil,ks,s,o1,rfl,by show _=Value.int .i64 ((0:Nat):Int);rfl,E1,aa.refl _ _ _,Dle.refl s,HW,hsk⟩
 case round =>
  clear HW E1 c0 c1 c2 c3 l1 hsk;obtain⟨d,r,s',o',HK,rfl,E2,S2,g2,HW,HS⟩:=hrel;obtain⟨c0,c1,c2,c3⟩:=KK.out _ _ S2;obtain⟨l1,-⟩:=E2.cl;have hlk:ks.len=d.len+r.len:=by rw[HK.out,Fs.len_app]
  have hsk:ks.size=d.size+r.size:=by rw[HK.out,Fs.size_app]
  have hld:=eS d;cases r using Fs.on with
  | nil =>
   have hkI:¬(d.len:Int)<(ks.len:Int):=by simp only[Fs.len] at hlk;omega
   have HW2:Hid (W=s'):=HW.out;clear HW HK hlk hsk hld hlz KK g2;go_wp2
   go_end0
   exact⟨rfl,o',by rw[HW2.out];exact E2,S0.trans S2⟩
  | cons kk kn km ka kks kr =>
   have hkI:(d.len:Int)<(ks.len:Int):=by simp only[Fs.len] at hlk;omega
   by_cases hlg:s'.lg=true
   ·have HW2:Hid (W=s'):=by show _=_;rw[HW.out];exact pE h21 hlg _ _ HS.out
    rw[hlg] at l1;clear HW HK hlk hsk hld hlz KK g2 HS;go_wp2
    go_end0
    exact⟨rfl,o',by rw[HW2.out];exact E2,S0.trans S2⟩
   ·have hlf:s'.lg=false:=by simpa using hlg
    rw[hlf] at l1;obtain⟨y,hy⟩:∃y:Ex,y=⟨kk,kn,km,ka,kks⟩:=⟨_,rfl⟩
    have hcy:Fs.cons kk kn km ka kks kr=Fs.ex y kr:=by rw[hy];rfl
    rw[hcy] at HK HW HS hlk hsk;have hly:(Fs.ex y kr).len=kr.len+1:=rfl;rw[hly] at hlk;rw[aV] at hsk;have oky:okE nc y:=by
     rw[HK.out] at ho;exact(aK (oJ ho)).1
    have SNk:=SN1.stepO S2 aA;rw[HK.out] at SNk;obtain⟨b,off,ak,ck,rfl,NN,Sy,NK⟩:=dQ (x:=d) SNk d.len rfl;obtain⟨x0,x1,x2,x3⟩:=NN;have HC:=HP y ak ck ar wr o' rb p0 p1 p2 p3 p4 lv s' (m+17*d.size) (by omega) oky ⟨fun hs=>h21 (HS.out.1.1 hs).1,HS.out.2.1,HS.out.2.2.1⟩ hlv hnc (by omega) (by omega) Sy (g2.ks.trans hks) (g2.sz m hz) (by omega) (X1.step S2 aA) E2;have gy:=bQ lv y ar s';have HWn:Hid (W=cR (deF lv kr) ar (deE lv y ar s')):=HW.out;have HSn:Hid (skF K kr k (d.len+1)):=HS.out.2.2.2;have HKn:Hid (ks=(d.snoc y).app kr):=by show _=_;rw[HK.out,nP]
    have HDN:Hid ((d.snoc y).len=d.len+1):=Fs.len_snoc d y;have HDS:Hid ((d.snoc y).size=d.size+(y.kids.size+1)):=by show _=_;unfold Fs.snoc;rw[Fs.size_app];rfl
    rw[ah] at HC;have HLK:=Lib.hid hlk;clear hy hcy hly SNk NK Sy HW HK HS E2 hsk hlk hlf hlg KK;go_wp2_with (first|(go_at_call 40;refine HC.mono ?_;rintro z w5 ⟨rfl,o5,E5,S5⟩));go_roundw
    case rel=>(try ((repeat apply Exists.intro);refine⟨?_,rfl⟩));exact⟨d.snoc y,kr,_,o5,HKn,by rw[HDN.out];go_num,E5,S2.trans S5,by rw[HDS.out];exact(g2.trans gy).le (by omega),HWn,by rw[HDN.out];exact HSn⟩
    case measure=>have hlk:=HLK.out;simp[intOf];omega
end Go.Proofs.YtbjdkekhnajafaaGreatDoor
