import Derived.Test.YtkhgahljbpmfaaaGreatDoorTkD
set_option maxRecDepth 100000
set_option maxHeartbeats 8000000
namespace Go.Proofs.YtkhgahljbpmfaaaGreatDoor
set_option linter.unusedVariables false
set_option linter.unusedSimpArgs false
theorem tk1 {sc:ScQ}{pk:Int}{ar:Nat}{T:List Tr}{a:Int}(h:TkL sc pk ar T [a] 0):∃t,T=[t]:=by
 have:=h.len
 match T,this with
 | [t],_=>exact⟨t,rfl⟩
theorem tk2 {sc:ScQ}{pk:Int}{ar:Nat}{T:List Tr}{a b:Int}(h:TkL sc pk ar T [a,b] 0):∃t u,T=[t,u]:=by
 have:=h.len
 match T,this with
 | [t,u],_=>exact⟨t,u,rfl⟩
theorem tk3 {sc:ScQ}{pk:Int}{ar:Nat}{T:List Tr}{a b c:Int}(h:TkL sc pk ar T [a,b,c] 0):∃t u v,T=[t,u,v]:=by
 have:=h.len
 match T,this with
 | [t,u,v],_=>exact⟨t,u,v,rfl⟩
theorem NdQ.one {sc:ScQ}{t:Tr}{k:Int}{ar:Nat}(h4:k≠4)(h:∀ ex (l:List Nat),SgQ sc ex (t ar l.length) (l,ar) (l++[k.toNat],ar)):NdQ sc t k ar:=⟨fun _=>h,fun e=>absurd e h4⟩
theorem NdQ.set {sc:ScQ}{t:Tr}{ar:Nat}(h:∀ ex (l:List Nat),SgQ sc ex (t ar l.length) (l,ar) (l,ar+1)):NdQ sc t 4 ar:=⟨fun h=>absurd rfl h,fun _=>h⟩
theorem SgQ.opr {sc:ScQ}{pk:Int}{ar:Nat}(hp:pk≠21){T:List Tr}{kd:List Int}{ex:Nat × StQ->Prop}{l:List Nat}{g:Em->Em}{B:StQ}(h:TkL sc pk ar T kd 0)(hk:∀ k ∈ kd,k≠4)(hg:∀ t ∈ T,∀ ar u,Gd (t ar u))(hq:∀ t ∈ T,Qtr t)(gg:Gd g)(qg:Qgr g)
  (k:SgQ sc ex g (l++kd.map Int.toNat,ar) B):SgQ sc ex (fun s=>g (seqT T 0 ar l.length s)) (l,ar) B :=
 (SgQ.seq hp T kd 0 0 ex l.length l h hk hg hq rfl).comp k (gd_seq T 0 ar _ hg) gg qg
theorem SgQ.forkF {nq:Nat}{kc:Nat->Nat}{sc:ScQ}(H:ScsQ nq kc sc){f g:Em->Em}(op:Nat)(ho:op=14\/op=15)(l:List Nat)(r:Nat)(B:StQ)(hf:Gd f)(hg:Gd g)(qg:Qgr g)(kf:∀ ex,SgQ sc ex f (l,r) B)(kg:∀ ex,SgQ sc ex g (l,r) B)(ex:Nat × StQ->Prop):SgQ sc ex (fun s=>s.fork op f g) (l++[2],r) B:=fun s hs hd hA =>
 SgQ.fork (A1:=(l,r)) (A2:=(l,r)) (by omega) (by omega) (by omega) (by omega) hf hg qg (fun h=>by simp at h ⊢;omega) (fun h=>by simp at h ⊢;omega) (fun h a k=>H.w14 op a 0 k l r ho (by simpa using h)) (fun a k S=>H.w13 _ _ _ _) (kf _) (kg _) hs hd hA
theorem tk_prt {nq:Nat}{kc:Nat->Nat}{sc:ScQ}(H:ScsQ nq kc sc)(lv:List Int)(k n:Int)(nm:List UInt8)(kk:List Int)(T:List Tr)(kd:List Int)(ar wi len:Nat)(hd:docF k n nm len=true)(hlen:kd.length=len)(hkl:kk.length=len)(h0:(formP k n kd).2≠0)(h1:(formP k n kd).1=kd)(hT:TkL sc k ar T kd 0)(hk:∀ j v,kd[j]?=some v->v≠4->kk.getD j 0=v)
  (hg:∀ t ∈ T,∀ ar u,Gd (t ar u)) (hq:∀ t ∈ T,Qtr t) (h5:k=5->0<=n/\n<(ar:Int)) (hw:wi<=nq) (ha:22<=k->k<=25->ar<wi) (hc:k=26->kc n.toNat=(kk.getD 0 0).toNat):NdQ sc (prt lv k n nm kk T) (formP k n kd).2 ar:=by
 have hkn:∀ x ∈ kd,k≠21->x≠4:=fun x hx h21=>by rw[<-h1] at hx;exact formP_mem h21 x hx
 have n4:¬(22<=k/\k<=25)->(formP k n kd).2≠4:=fun a b=>a (formP_four.1 b);have hkd:=docF_kind hd;have hdl:=doc_lenq hd;by_cases e1:k=1
 ·subst e1;exact NdQ.one (n4 (by decide)) (fun ex l=>SgQ.con H n 1 l ar)
 by_cases e2:k=2
 ·subst e2;exact NdQ.one (n4 (by decide)) (fun ex l=>SgQ.con H n 2 l ar)
 by_cases e3:k=3
 ·subst e3;exact NdQ.one (n4 (by decide)) (fun ex l=>SgQ.vtx H n l ar)
 by_cases e5:k=5
 ·subst e5;exact NdQ.one (n4 (by decide)) (fun ex l=>SgQ.var H n.toNat l ar (by have:=h5 rfl;omega))
 by_cases e6:k=6
 ·subst e6;exact NdQ.one (n4 (by decide)) (fun ex l=>SgQ.opr (by decide) hT (fun x hx=>hkn x hx (by decide)) hg hq (g:=fun s=>s.lay 4 0 0) (gd_lay 4 0 0 (by decide) (by decide) (by decide)) (fun x=>qle_lay _ _ _ _) (by
   rw[show kd=[1] from h1.symm];exact SgQ.lay 4 0 0 (fun hA=>⟨hA,fun k=>H.w4 0 0 k l ar (by simpa using hA)⟩)))
 by_cases e7:k=7
 ·subst e7;exact NdQ.one (n4 (by decide)) (fun ex l=>SgQ.opr (by decide) hT (fun x hx=>hkn x hx (by decide)) hg hq (g:=fun s=>s.lay 5 0 0) (gd_lay 5 0 0 (by decide) (by decide) (by decide)) (fun x=>qle_lay _ _ _ _) (by
   rw[show kd=[2] from h1.symm];exact SgQ.lay 5 0 0 (fun hA=>⟨hA,fun k=>H.w5 0 0 k l ar (by simpa using hA)⟩)))
 by_cases e8:8<=k/\k<=12
 ·have hc8:k=8\/k=9\/k=10\/k=11\/k=12:=by omega
  rcases hc8 with rfl|rfl|rfl|rfl|rfl
  all_goals
   refine NdQ.one (n4 (by decide)) (fun ex l=>SgQ.opr (by decide) hT (fun x hx=>hkn x hx (by decide)) hg hq (g:=fun s=>s.lay _ 0 0) (gd_lay _ 0 0 (by decide) (by decide) (by decide)) (fun x=>qle_lay _ _ _ _) ?_);rw[show kd=[1,1] from h1.symm];exact SgQ.lay _ 0 0 (fun hA=>⟨by simp at hA;show (l++[1]).length<=1024;simp;omega,fun k=>H.w6 _ 0 0 k l ar (by decide) (by decide) (by simpa using hA)⟩)
 by_cases e13:k=13
 ·subst e13;have hz:kd=[wkP kd 0,wkP kd 0]:=h1.symm;obtain⟨a,ha1⟩:∃a,a=wkP kd 0:=⟨_,rfl⟩
  rw[<-ha1] at hz;have ha4:a≠4:=hkn a (by rw[hz];simp) (by decide);have hka:kk.getD 0 0=a:=hk 0 a (by rw[hz];rfl) ha4;refine NdQ.one (n4 (by decide)) (fun ex l=>?_)
  have:=SgQ.opr (ex:=ex) (l:=l) (by decide) hT (fun x hx=>hkn x hx (by decide)) hg hq (g:=fun s=>s.lay 11 0 (kk.getD 0 0).toNat) (B:=(l++[2],ar)) (gd_lay 11 0 _ (by decide) (by decide) (by decide)) (fun x=>qle_lay _ _ _ _) (by
   rw[hz,hka];exact SgQ.lay 11 0 _ (fun hA=>⟨by simp at hA ⊢;omega,fun k=>H.w11 0 a.toNat k l ar (by simpa using hA)⟩))
  exact this
 by_cases e14:k=14
 ·subst e14;have hz:kd=[wkP kd 0,wkP kd 0]:=h1.symm;obtain⟨a,ha1⟩:∃a,a=wkP kd 0:=⟨_,rfl⟩
  rw[<-ha1] at hz;have ha4:a≠4:=hkn a (by rw[hz];simp) (by decide);have hka:kk.getD 0 0=a:=hk 0 a (by rw[hz];rfl) ha4;refine NdQ.one (n4 (by decide)) (fun ex l=>?_)
  have:=SgQ.opr (ex:=ex) (l:=l) (by decide) hT (fun x hx=>hkn x hx (by decide)) hg hq (g:=fun s=>(s.lay 11 0 (kk.getD 0 0).toNat).lay 5 0 0) (B:=(l++[2],ar)) ((gd_lay 11 0 _ (by decide) (by decide) (by decide)).comp (gd_lay 5 0 0 (by decide) (by decide) (by decide))) (fun x=>(qle_lay _ _ _ _).trans (qle_lay _ _ _ _)) (by
   rw[hz,hka];have q1:SgQ sc ex (fun s=>s.lay 11 0 a.toNat) (l++List.map Int.toNat [a,a],ar) (l++[2],ar):=SgQ.lay 11 0 _ (fun hA=>⟨by simp at hA ⊢;omega,fun k=>H.w11 0 a.toNat k l ar (by simpa using hA)⟩);exact q1.comp (SgQ.lay 5 0 0 (fun hA=>⟨hA,fun k=>H.w5 0 0 k l ar (by simpa using hA)⟩)) (gd_lay 11 0 _ (by decide) (by decide) (by decide)) (gd_lay 5 0 0 (by decide) (by decide) (by decide)) (fun x=>qle_lay _ _ _ _))
  exact this
 by_cases e15:k=15\/k=16
 ·rcases e15 with rfl|rfl
  all_goals
   refine NdQ.one (n4 (by decide)) (fun ex l=>SgQ.opr (by decide) hT (fun x hx=>hkn x hx (by decide)) hg hq (g:=fun s=>s.lay 12 0 _) (gd_lay 12 0 _ (by decide) (by decide) (by decide)) (fun x=>qle_lay _ _ _ _) ?_);rw[show kd=[1,1] from h1.symm];exact SgQ.lay 12 0 _ (fun hA=>⟨by simp at hA;show (l++[2]).length<=1024;simp;omega,fun k=>H.w12 0 _ k l ar (by simpa using hA)⟩)
 by_cases e22:k=22
 ·subst e22;have hz:kd=[]:=h1.symm;refine NdQ.set (fun ex l=>SgQ.opr (by decide) hT (fun x hx=>hkn x hx (by decide)) hg hq (g:=fun s=>s.lay 20 0 0) (gd_lay 20 0 0 (by decide) (by decide) (by decide)) (fun x=>qle_lay _ _ _ _) ?_);rw[hz];exact SgQ.lay 20 0 0 (fun hA=>⟨by simpa using hA,fun k=>by simpa using H.w20 20 0 0 k l ar (.inl rfl) (by simpa using hA) (by have:=ha (by decide) (by decide);omega)⟩)
 by_cases e23:k=23
 ·subst e23;have hz:kd=[]:=h1.symm;refine NdQ.set (fun ex l=>SgQ.opr (by decide) hT (fun x hx=>hkn x hx (by decide)) hg hq (g:=fun s=>(s.kn nm).lay 21 (s.ns.idxOf nm) 0) (gd_nam nm) (fun x=>(qle_kn x nm).trans (qle_lay _ _ _ _)) ?_);rw[hz]
  have:=SgQ.nam H (ex:=ex) nm l ar (by have:=ha (by decide) (by decide);omega)
  simpa using this
 by_cases e24:k=24
 ·subst e24;have hz:kd=[3]:=h1.symm;refine NdQ.set (fun ex l=>SgQ.opr (by decide) hT (fun x hx=>hkn x hx (by decide)) hg hq (g:=fun s=>s.lay 22 0 0) (gd_lay 22 0 0 (by decide) (by decide) (by decide)) (fun x=>qle_lay _ _ _ _) ?_);rw[hz];exact SgQ.lay 22 0 0 (fun hA=>⟨by simp at hA ⊢;omega,fun k=>H.w22 0 0 k l ar (by simpa using hA) (by have:=ha (by decide) (by decide);omega)⟩)
 by_cases e25:k=25
 ·subst e25;have hz:kd=List.replicate kd.length 3:=h1.symm;refine NdQ.set (fun ex l=>SgQ.opr (by decide) hT (fun x hx=>hkn x hx (by decide)) hg hq (g:=fun s=>s.lay 23 kk.length 0) (gd_lay 23 _ 0 (by decide) (by decide) (by decide)) (fun x=>qle_lay _ _ _ _) ?_);rw[hz];have e:List.map Int.toNat (List.replicate kd.length 3)=List.replicate kk.length 3:=by rw[List.map_replicate,hkl,hlen];rfl
  rw[e];exact SgQ.lay 23 _ 0 (fun hA=>⟨by simp at hA ⊢;omega,fun k=>H.w23 kk.length 0 k l ar (by simpa using hA) (by have:=ha (by decide) (by decide);omega)⟩)
 by_cases e17:k=17\/k=18
 ·rcases e17 with rfl|rfl
  all_goals
   have hz:kd=[2,2]:=h1.symm;rw[hz] at hT;obtain⟨t,u,rfl⟩:=tk2 hT;have ht:=hT.1;have hu:=hT.2.1;rw[if_neg (by omega)] at ht hu;refine NdQ.one (n4 (by decide)) (fun ex l=>?_);exact(ht.1 (by decide) ex l).comp (SgQ.forkF H _ (by decide) l ar _ (hg u (by simp) ar l.length) (gd_con _ 2 _) (fun x=>qle_con _ _ _ _) (fun ex=>hu.1 (by decide) ex l) (fun ex=>SgQ.con H _ 2 l ar) ex) (hg t (by simp) ar l.length) (gd_fork _ (hg u (by simp) ar l.length) (gd_con _ 2 _) (by decide) (by decide) (by decide)) (qgr_fork _ (hq u (by simp) ar l.length) (fun x=>qle_con _ _ _ _))
 by_cases e19:k=19
 ·subst e19;have hz:kd=[2,wkP kd 1,wkP kd 1]:=h1.symm;have hR:(formP 19 n kd).2=wkP kd 1:=rfl;rw[hR];obtain⟨a,ha1⟩:∃a,a=wkP kd 1:=⟨_,rfl⟩
  rw[<-ha1] at hz ⊢;have ha4:a≠4:=hkn a (by rw[hz];simp) (by decide);rw[hz] at hT;obtain⟨t,u,v,rfl⟩:=tk3 hT;have ht:=hT.1;have hu:=hT.2.1;have hv:=hT.2.2.1;rw[if_neg (by omega)] at ht hu hv;refine NdQ.one ha4 (fun ex l=>?_);exact(ht.1 (by decide) ex l).comp (SgQ.forkF H 14 (.inl rfl) l ar _ (hg u (by simp) ar l.length) (hg v (by simp) ar l.length) (hq v (by simp) ar l.length) (fun ex=>hu.1 ha4 ex l) (fun ex=>hv.1 ha4 ex l) ex) (hg t (by simp) ar l.length) (gd_fork 14 (hg u (by simp) ar l.length) (hg v (by simp) ar l.length) (by decide) (by decide) (by decide)) (qgr_fork 14 (hq u (by simp) ar l.length) (hq v (by simp) ar l.length))
 by_cases e20:k=20
 ·subst e20;refine NdQ.one (n4 (by decide)) (fun ex l=>SgQ.opr (by decide) hT (fun x hx=>hkn x hx (by decide)) hg hq (g:=fun s=>s.lay 16 n.toNat 0) (gd_lay 16 _ 0 (by decide) (by decide) (by decide)) (fun x=>qle_lay _ _ _ _) ?_);have hnn:1<=n/\n<=10:=by
   unfold docF at hd;simp at hd;omega
  have hc20:n=1\/n=2\/n=3\/n=10\/(4<=n/\n<=9):=by omega
  rcases hc20 with rfl|rfl|rfl|rfl|hc20
  ·rw[show kd=[3,3] from h1.symm];exact SgQ.lay 16 _ 0 (fun hA=>⟨by simp at hA;show (l++[2]).length<=1024;simp;omega,fun k=>H.w16a 1 0 k l ar (.inl rfl) (by simpa using hA)⟩)
  ·rw[show kd=[3,3] from h1.symm];exact SgQ.lay 16 _ 0 (fun hA=>⟨by simp at hA;show (l++[2]).length<=1024;simp;omega,fun k=>H.w16a 2 0 k l ar (.inr rfl) (by simpa using hA)⟩)
  ·rw[show kd=[3,3] from h1.symm];exact SgQ.lay 16 _ 0 (fun hA=>⟨by simp at hA;show (l++[1]).length<=1024;simp;omega,fun k=>H.w16b 0 k l ar (by simpa using hA)⟩)
  ·rw[show kd=[3] from h1.symm];exact SgQ.lay 16 _ 0 (fun hA=>⟨by simp at hA;show (l++[3]).length<=1024;simp;omega,fun k=>H.w16c 0 k l ar (by simpa using hA)⟩)
  ·have hform:∀ q:List Int,formP 20 n q=([3],1):=fun q=>by
    unfold formP;simp;rw[if_neg (by omega),if_neg (by omega),if_neg (by omega)]
   have hz:kd=[3]:=by rw[<-h1,hform]
   rw[hform,hz];exact SgQ.lay 16 _ 0 (fun hA=>⟨by simp at hA;show (l++[1]).length<=1024;simp;omega,fun k=>H.w16d n.toNat 0 k l ar (by omega) (by omega) (by simpa using hA)⟩)
 by_cases e26:k=26
 ·subst e26;have hz:kd=[wkP kd 0]:=h1.symm;have hR:(formP 26 n kd).2=wkP kd 0:=rfl;rw[hR];obtain⟨a,ha1⟩:∃a,a=wkP kd 0:=⟨_,rfl⟩
  rw[<-ha1] at hz ⊢;have ha4:a≠4:=hkn a (by rw[hz];simp) (by decide);have hka:kk.getD 0 0=a:=hk 0 a (by rw[hz];rfl) ha4;have hkc:kc n.toNat=a.toNat:=by rw[hc rfl,hka]
  rw[hz] at hT;obtain⟨t,rfl⟩:=tk1 hT;have ht:=hT.1;rw[if_neg (by omega)] at ht;refine NdQ.one ha4 (fun ex l=>?_)
  have:=SgQ.cell H (ex:=ex) (f:=t ar l.length) n.toNat (kk.getD 0 0) l ar (hg t (by simp) ar l.length) (fun ex=>by rw[hkc];exact ht.1 ha4 ex l)
  rw[hkc] at this;exact this
 have e21:k=21:=by omega
 subst e21;have hn:=(hdl.2.2.2.2.1 rfl).2;have hzf:formP 21 n kd=([4,if n<=3 then 2 else 1],if n<=2 then 2 else 1):=by
  unfold formP;simp;by_cases n1:n=1\/n=2
  ·rw[if_pos n1,if_pos (by omega),if_pos (by omega)]
  ·rw[if_neg n1];by_cases n3:n=3
   ·rw[if_pos n3,if_pos (by omega),if_neg (by omega)]
   ·rw[if_neg n3,if_neg (by omega),if_neg (by omega)]
 have hz:kd=[4,if n<=3 then 2 else 1]:=by rw[<-h1,hzf]
 rw[hz] at hT;obtain⟨t,u,rfl⟩:=tk2 hT;have ht:NdQ sc t 4 ar:=hT.1;have hu:NdQ sc u (if n<=3 then 2 else 1) (ar+1):=hT.2.1;refine NdQ.one (n4 (by decide)) (fun ex l=>?_);rw[hzf]
 have:=NdQ.qua H lv n hn ht hu (hg t (by simp)) (hg u (by simp)) (hq t (by simp)) (hq u (by simp)) ex l
 have e:(if n<=2 then (2:Int) else 1).toNat=if n<=2 then 2 else 1:=by split<;>rfl
 simp only[e];exact this
theorem kdN_form {k n:Int}{kd kk:List Int}(hk:∀ j v,kd[j]?=some v->v≠4->kk.getD j 0=v)(h0:(formP k n kd).2≠0)(h4:(formP k n kd).2≠4)(h1:(formP k n kd).1=kd)(hd:∃nm len,docF k n nm len=true):kdN k n kk=(formP k n kd).2:=by
 obtain⟨nm,len,hd⟩:=hd;have hkk:=docF_kind hd;have hdl:=doc_lenq hd;have n4:¬(22<=k/\k<=25):=fun h=>h4 (formP_four.2 h);by_cases e19:k=19
 ·subst e19;have hz:kd=[2,wkP kd 1,wkP kd 1]:=h1.symm;have h4':wkP kd 1≠4:=wkP_neq kd 1;have hq:=congrArg (fun q:List Int=>q[1]?) hz;exact hk 1 (wkP kd 1) (by simpa using hq) h4'
 by_cases e26:k=26
 ·subst e26;have hz:kd=[wkP kd 0]:=h1.symm;have hq:=congrArg (fun q:List Int=>q[0]?) hz;exact hk 0 (wkP kd 0) (by simpa using hq) (wkP_neq kd 0)
 by_cases e20:k=20
 ·subst e20;unfold kdN formP cakN;simp;by_cases a:n=1\/n=2
  ·rw[if_pos a,if_pos a]
  ·rw[if_neg a,if_neg a];by_cases b:n=3
   ·rw[if_pos b,if_neg (by omega)]
   ·rw[if_neg b];by_cases c:n=10
    ·rw[if_pos c,if_pos c]
    ·rw[if_neg c,if_neg c]
 by_cases e21:k=21
 ·subst e21;unfold kdN formP qukN;simp;by_cases a:n=1\/n=2
  ·rw[if_pos a,if_pos a]
  ·rw[if_neg a,if_neg a];by_cases b:n=3
   ·rw[if_pos b]
   ·rw[if_neg b]
 have hc:k=1\/k=2\/k=3\/k=5\/k=6\/k=7\/k=8\/k=9\/k=10\/k=11\/k=12\/k=13\/k=14\/k=15\/k=16\/k=17\/k=18:=by omega
 rcases hc with rfl|rfl|rfl|rfl|rfl|rfl|rfl|rfl|rfl|rfl|rfl|rfl|rfl|rfl|rfl|rfl|rfl<;>rfl
def nesF:Fs->Nat
 | ⟨none⟩=>0
 | ⟨some ⟨k,_,_,_,ks,r⟩⟩=>max (nesF ks+(if k=21 then 1 else 0)) (nesF r)
theorem nes_at {k n a:Int}{nm:List UInt8}{ks r:Fs}{pk:Int}{i ar wi nq:Nat}(h:wi+(if pk=21 then 1 else 0)+nesF ⟨some ⟨k,n,nm,a,ks,r⟩⟩<=nq) :
  (spotP pk i ar wi).2+(if k=21 then 1 else 0)+nesF ks<=nq/\wi+(if pk=21 then 1 else 0)+nesF r<=nq/\(spotP pk i ar wi).2<=nq:=by
 simp only[nesF] at h;unfold spotP;by_cases e:pk=21<;>simp only[e,if_true,if_false] at *<;>omega
theorem tk_F {nq:Nat}{kc:Nat->Nat}{sc:ScQ}(H:ScsQ nq kc sc)(cells lv:List Int)(nc:Nat):∀ (f:Fs) (pk:Int) (i ar wi:Nat) (s s':Rg) (kd:List Int),ar<=wi->okF nc f->rgF cells f pk i ar wi s=some (s',kd)->wi+(if pk=21 then 1 else 0)+nesF f<=nq->(∀ i x,s'.2 i=some x->i<nc->kc i=(kdE x).toNat)->(∀ j v,kd[j]?=some v->(v=4 ↔ (pk=21/\i+j=0))) ->
  TkL sc pk ar (emF lv f) kd i/\∀ j v,kd[j]?=some v->v≠4->(kdF f).getD j 0=v
 | ⟨none⟩,pk,i,ar,wi,s,s',kd,ha,ho,h,_,hx,hv=>by
  simp only[rgF] at h;injection h with h
  injection h with h1 h2
  subst h2;exact⟨trivial,fun j v h=>by simp at h⟩
 | ⟨some ⟨k,n,nm,a,ks,r⟩⟩,pk,i,ar,wi,s,s',kd,ha,ho,h,hn,hK2,hv=>by
  obtain⟨n1,n2,n3⟩:=nes_at (n:=n) (a:=a) (nm:=nm) (pk:=pk) (i:=i) (ar:=ar) hn;obtain⟨s2,k2,rest,hx,hr,rfl⟩:=rg_kids _ pk i ar wi s s' kd h ⟨k,n,nm,a,ks⟩ r rfl;obtain⟨hg,s1,kd1,hk,hl,h0,h1,h2,h3⟩:=rgE_inv hx;simp only at hk hl h0 h1 h2 h3;obtain⟨g1,-⟩:=rg_go cells nc ks k 0 _ _ _ _ _ ho.2.1 hk;obtain⟨g3,-⟩:=rg_go cells nc r pk (i+1) ar wi _ _ _ ho.2.2 hr;have g2:Kgo s1 s2/\(k=26->∃x,s2.2 n.toNat=some x/\kdE x=(kdF ks).getD 0 0):=by
   by_cases e:k=26
   ·rw[if_pos e] at h3;subst e;have hl1:=doc26 ho.1.1;have hp:=(kdE_bd (head_ok hl1 ho.2.1)).1;obtain⟨a1,x,a2,a3⟩:=keepP_go h3 hp;exact⟨a1,fun _=>⟨x,a2,by rw[a3,head_kd hl1]⟩⟩
   ·rw[if_neg e] at h3;injection h3 with h3
    subst h3;exact⟨Kgo.refl _,fun h=>absurd h e⟩
  have hsp:=spot_le (pk:=pk) (i:=i) ha;have hs1:(spotP pk i ar wi).1=if pk=21/\i≠0 then ar+1 else ar:=by
   unfold spotP;by_cases e:pk=21
   ·by_cases e2:i=0<;>simp[e,e2]
   ·simp[e]
  have hs2:pk=21->i=0->(spotP pk i ar wi).1<(spotP pk i ar wi).2:=fun e1 e2=>by
   unfold spotP;rw[if_pos e1];simp[e2];omega
  obtain⟨t1,c1⟩:=tk_F H cells lv nc ks k 0 _ _ _ _ _ hsp ho.2.1 hk n1 (fun i x q=>hK2 i x (g3.up i x (g2.1.up i x q))) (fun j v q=>by have:=formP_kids h1 h0 j v q;simpa using this);obtain⟨t3,c3⟩:=tk_F H cells lv nc r pk (i+1) ar wi _ _ _ ha ho.2.2 hr n2 hK2 (fun j v q=>by have:=hv (j+1) v q;rw[this];omega);have hset:=hv 0 k2 rfl;rw[h2,formP_four] at hset;unfold gdE at hg;simp only[not_or] at hg;obtain⟨-,y2,-,y4⟩:=hg;have hnd:=tk_prt H lv k n nm (kdF ks) (emF lv ks) kd1 (spotP pk i ar wi).1 (spotP pk i ar wi).2 ks.len ho.1.1 hl (kdF_len ks) h0 h1 t1 c1 (gd_emF lv ks) (qtr_emF lv ks) (fun e=>by
    subst e;simp[nuP] at y4;omega) (by omega) (fun a b=>hs2 (hset.1 ⟨a,b⟩).1 (by have:=(hset.1 ⟨a,b⟩).2;omega)) (fun e=>by
    obtain⟨x,a1,a2⟩:=g2.2 e;rw[hK2 _ _ (g3.up _ _ a1) (by have:=ho.1.2.2.1 e;omega),a2])
  rw[<-h2,hs1] at hnd;refine⟨⟨hnd,t3⟩,fun j v q h4=>?_⟩;cases j with
  | zero =>
   simp at q;subst q;show kdN k n (kdF ks)=k2;rw[h2];rw[h2] at h4;exact kdN_form c1 h0 h4 h1 ⟨nm,ks.len,ho.1.1⟩
  | succ j =>
   exact c3 j v (by simpa using q) h4
structure Ck (K:Nat->Int)(i:Nat)(V:Prop)(a b:List Int):Prop where
 len:b.length=a.length
 or:b.getD i 0=a.getD i 0\/b.getD i 0=K i
 vis:V->i<a.length->b.getD i 0=K i
theorem Ck.refl (K:Nat->Int)(i:Nat)(a:List Int):Ck K i False a a:=⟨rfl,.inl rfl,fun h=>h.elim⟩
theorem Ck.trans {K:Nat->Int}{i:Nat}{V W:Prop}{a b c:List Int}(h:Ck K i V a b)(k:Ck K i W b c):Ck K i (V\/W) a c:=by
 refine⟨k.len.trans h.len,?_,fun q hi=>?_⟩
 ·rcases k.or with h1|h1
  ·rw[h1];exact h.or
  ·exact .inr h1
 ·rcases q with q|q
  ·rcases k.or with h1|h1
   ·rw[h1];exact h.vis q hi
   ·exact h1
  ·exact k.vis q (by rw[h.len];exact hi)
theorem Ck.mono {K:Nat->Int}{i:Nat}{V W:Prop}{a b:List Int}(h:Ck K i V a b)(k:W->V):Ck K i W a b:=⟨h.len,h.or,fun q=>h.vis (k q)⟩
abbrev Vt (K:Nat->Int)(i:Nat)(t:Tr):Prop:=∀ ar u s,Ck K i True s.ks (t ar u s).ks
abbrev Ct (K:Nat->Int)(i:Nat)(V:Prop)(t:Tr):Prop:=∀ ar u s,Ck K i V s.ks (t ar u s).ks
theorem Ct.vt {K:Nat->Int}{i:Nat}{t:Tr}(h:Ct K i False t):Ct K i (Vt K i t) t:=fun ar u s=>⟨(h ar u s).len,(h ar u s).or,fun q=>(q ar u s).vis trivial⟩
theorem clrs_ksq (h:Nat):∀ (lv:List Int) (i:Nat) (s:Em),(clrs h lv i s).ks=s.ks
 | [],_,_=>rfl
 | l::r,i,s=>by
  unfold clrs;rw[clrs_ksq h r];split<;>rfl
theorem opr_ksq (k n:Int)(nm:List UInt8)(kk:List Int)(s:Em):(opr k n nm kk s).ks=s.ks:=by
 unfold opr
 repeat' split
 all_goals rfl
theorem ck_bdy {K:Nat->Int}{i:Nat}{V:Prop}(lv:List Int){t:Tr}(h:Ct K i V t):Ct K i V (bdy lv t):=fun ar u s=>by
 have:=h (ar+1) u (clrs (ar+1) lv 0 s)
 rw[clrs_ksq] at this;exact this
theorem ck_fork {K:Nat->Int}{i:Nat}{V W:Prop}{f g:Em->Em}(hf:∀ s:Em,Ck K i V s.ks (f s).ks)(hg:∀ s:Em,Ck K i W s.ks (g s).ks)(op:Nat)(s:Em):Ck K i (V\/W) s.ks (s.fork op f g).ks:=(hf (s.lay op 0 0)).trans (hg (((f (s.lay op 0 0)).lay 13 0 0).land s.ws.length))
theorem ck_srch {K:Nat->Int}{i:Nat}{V:Prop}(lv:List Int){t:Tr}(h:Ct K i V t)(op:Nat)(v:Int):Ct K i V (srch lv t op v):=fun ar u s =>
 (ck_fork (W:=False) (f:=fun x=>(((bdy lv t ar u x).lay op s.ws.length 0).lay 25 0 0).con v 2 u) (g:=fun x=>x.con (1-v) 2 u) (fun x=>ck_bdy lv h ar u x) (fun x=>Ck.refl K i x.ks) 24 s).mono .inl
theorem ck_gath {K:Nat->Int}{i:Nat}{V:Prop}(lv:List Int){t:Tr}(h:Ct K i V t)(f:Nat->Em->Em)(hf:∀ g s,(f g s).ks=s.ks):Ct K i V (gath lv t f):=fun ar u s=>by
 have:=ck_bdy lv h ar u (s.lay 24 0 0)
 show Ck K i V s.ks (f s.ws.length (bdy lv t ar u (s.lay 24 0 0))).ks;rw[hf];exact this
theorem ck_qua {K:Nat->Int}{i:Nat}{V W:Prop}(lv:List Int)(n:Int){a t:Tr}(h:Ct K i V a)(k:Ct K i W t):Ct K i (V\/W) (qua lv n a t):=fun ar u s=>by
 unfold qua;split
 ·exact(h ar u s).trans (ck_srch lv k 15 0 ar u _)
 split
 ·exact(h ar u s).trans (ck_srch lv k 14 1 ar u _)
 split
 ·exact(h ar u s).trans (ck_gath lv k (fun g x=>((x.lay 14 g 0).con 1 1 (u+1)).lay 6 0 0) (fun _ _=>rfl) ar (u+1) ((a ar u s).con 0 1 u))
 split
 ·exact(h ar u s).trans (ck_gath lv k (fun _ x=>x.lay 6 0 0) (fun _ _=>rfl) ar (u+1) ((a ar u s).con 0 1 u))
 ·exact(h ar u s).trans (ck_gath lv k (fun _ x=>x.lay 26 (n-5).toNat 0) (fun _ _=>rfl) ar (u+2) (((a ar u s).con 0 1 u).con 0 2 (u+1)))
theorem ck_seq {K:Nat->Int}{i:Nat}:∀ (T:List Tr) (j ar u:Nat) (s:Em),(∀ t ∈ T,Ct K i False t)->Ck K i (∃t ∈ T,Vt K i t) s.ks (seqT T j ar u s).ks
 | [],_,_,_,s,_=>(Ck.refl K i s.ks).mono (by rintro ⟨t,h,-⟩;cases h)
 | t::T,j,ar,u,s,h=>((h t (.head _)).vt ar (u+j) s |>.trans (ck_seq T (j+1) ar u (t ar (u+j) s) fun x hx=>h x (.tail _ hx))).mono (by
  rintro ⟨x,hx,hv⟩;rcases List.mem_cons.1 hx with rfl|hx
  ·exact .inl hv
  ·exact .inr ⟨x,hx,hv⟩)
theorem ck_prt {K:Nat->Int}{i:Nat}(lv:List Int)(k n:Int)(nm:List UInt8)(kk:List Int)(T:List Tr)(len:Nat)(hd:docF k n nm len=true)(hl:T.length=len)(hT:∀ t ∈ T,Ct K i False t)(hc:k=26->kk.getD 0 0=K n.toNat) :
  Ct K i ((k=26/\n.toNat=i)\/∃t ∈ T,Vt K i t) (prt lv k n nm kk T):=fun ar u s=>by
 obtain⟨l1,l2,l3,l4,l5,l6,l7,l8⟩:=doc_lenq hd;have no:k≠26->T=[]->Ck K i ((k=26/\n.toNat=i)\/∃t ∈ T,Vt K i t) s.ks s.ks:=by
  rintro a rfl;exact(Ck.refl K i s.ks).mono (by
   rintro (h|⟨t,ht,-⟩)
   ·exact a h.1
   ·cases ht)
 have two:len=2->k≠26->∃a b,T=[a,b]/\Ct K i False a/\Ct K i False b/\(((k=26/\n.toNat=i)\/∃t ∈ T,Vt K i t)->Vt K i a\/Vt K i b):=fun h a=>by
  obtain⟨x,y,rfl⟩:∃x y,T=[x,y]:=by
   match T,hl.trans h with
   | [x,y],_=>exact⟨x,y,rfl⟩
  refine⟨x,y,rfl,hT x (by simp),hT y (by simp),?_⟩;rintro (h|⟨t,ht,hv⟩)
  ·exact absurd h.1 a
  ·simp only[List.mem_cons,List.not_mem_nil,or_false] at ht;rcases ht with rfl|rfl
   ·exact .inl hv
   ·exact .inr hv
 have l0:k=1\/k=2\/k=3\/k=5->T=[]:=fun h=>by
  have:len=0:=by rcases h with rfl|rfl|rfl|rfl<;>simp[docF] at hd<;>omega
  exact List.eq_nil_of_length_eq_zero (hl.trans this)
 unfold prt;by_cases e1:k=1
 ·rw[if_pos e1];exact no (by omega) (l0 (by omega))
 rw[if_neg e1];by_cases e2:k=2
 ·rw[if_pos e2];exact no (by omega) (l0 (by omega))
 rw[if_neg e2];by_cases e3:k=3
 ·rw[if_pos e3];exact no (by omega) (l0 (by omega))
 rw[if_neg e3];by_cases e5:k=5
 ·rw[if_pos e5];exact no (by omega) (l0 (by omega))
 rw[if_neg e5];by_cases e17:k=17
 ·obtain⟨a,b,rfl,ha,hb,hv⟩:=two (l2 (by omega) (by omega)) (by omega);rw[if_pos e17];exact((ha.vt ar u s).trans (ck_fork (W:=False) (f:=b ar u) (g:=fun x=>x.con 0 2 u) (hb.vt ar u) (fun x=>Ck.refl K i x.ks) 14 (a ar u s))).mono fun h=>(hv h).imp id .inl
 rw[if_neg e17];by_cases e18:k=18
 ·obtain⟨a,b,rfl,ha,hb,hv⟩:=two (l2 (by omega) (by omega)) (by omega);rw[if_pos e18];exact((ha.vt ar u s).trans (ck_fork (W:=False) (f:=b ar u) (g:=fun x=>x.con 1 2 u) (hb.vt ar u) (fun x=>Ck.refl K i x.ks) 15 (a ar u s))).mono fun h=>(hv h).imp id .inl
 rw[if_neg e18];by_cases e19:k=19
 ·obtain⟨a,b,c,rfl⟩:∃a b c,T=[a,b,c]:=by
   match T,hl.trans (l3 e19) with
   | [a,b,c],_=>exact⟨a,b,c,rfl⟩
  rw[if_pos e19];have ha:Ct K i False a:=hT a (by simp);have hb:Ct K i False b:=hT b (by simp);have hc':Ct K i False c:=hT c (by simp);refine((ha.vt ar u s).trans (ck_fork (f:=b ar u) (g:=c ar u) (hb.vt ar u) (hc'.vt ar u) 14 (a ar u s))).mono ?_;rintro (h|⟨t,ht,hv⟩)
  ·omega
  ·simp only[List.mem_cons,List.not_mem_nil,or_false] at ht;rcases ht with rfl|rfl|rfl
   ·exact .inl hv
   ·exact .inr (.inl hv)
   ·exact .inr (.inr hv)
 rw[if_neg e19];by_cases e26:k=26
 ·obtain⟨a,rfl⟩:∃a,T=[a]:=by
   match T,hl.trans (l7 e26) with
   | [a],_=>exact⟨a,rfl⟩
  rw[if_pos e26];have ha:Ct K i False a:=hT a (by simp);have h0:Ck K i (n.toNat=i) s.ks (s.ks.set n.toNat (kk.getD 0 0)):=by
   rw[hc e26];refine⟨by simp,?_,fun q hi=>?_⟩
   ·by_cases q:n.toNat=i
    ·by_cases hi:i<s.ks.length
     ·right;subst q;simp[hi]
     ·left;rw[List.set_eq_of_length_le (by omega)]
    ·left;simp[List.getD_eq_getElem?_getD,List.getElem?_set,q]
   ·subst q;simp[hi]
  refine(h0.trans (ha.vt ar u ((s.cel n.toNat (kk.getD 0 0)).lay 17 n.toNat 0))).mono ?_;rintro (h|⟨t,ht,hv⟩)
  ·exact .inl h.2
  ·simp only[List.mem_cons,List.not_mem_nil,or_false] at ht;subst ht;exact .inr hv
 rw[if_neg e26];by_cases e21:k=21
 ·obtain⟨a,b,rfl,ha,hb,hv⟩:=two (l5 e21).1 (by omega);rw[if_pos e21];exact(ck_qua lv n ha.vt hb.vt ar u s).mono hv
 rw[if_neg e21,opr_ksq];exact(ck_seq T 0 ar u s hT).mono fun h=>h.elim (fun h=>absurd h.1 e26) id
theorem ck_F (K:Nat->Int)(c:Nat)(cells lv:List Int)(nc:Nat):∀ (f:Fs) (pk:Int) (i ar wi:Nat) (s s':Rg) (kd:List Int),okF nc f->rgF cells f pk i ar wi s=some (s',kd)->(∀ i x,s'.2 i=some x->kdE x=K i) ->
  (∀ t ∈ emF lv f,Ct K c False t)/\∀ x,s'.2 c=some x->(∃y,s.2 c=some y)\/∃t ∈ emF lv f,Vt K c t
 | ⟨none⟩,pk,i,ar,wi,s,s',kd,ho,h,hx=>by
  simp only[rgF] at h;injection h with h
  injection h with h1 h2
  subst h1;exact⟨fun t ht=>by simp[emF] at ht,fun x q=>.inl ⟨x,q⟩⟩
 | ⟨some ⟨k,n,nm,a,ks,r⟩⟩,pk,i,ar,wi,s,s',kd,ho,h,hK=>by
  obtain⟨s2,k2,rest,hx,hr,rfl⟩:=rg_kids _ pk i ar wi s s' kd h ⟨k,n,nm,a,ks⟩ r rfl;obtain⟨hg,s1,kd1,hk,hl,h0,h1,h2,h3⟩:=rgE_inv hx;simp only at hk hl h0 h1 h2 h3;obtain⟨g3,-⟩:=rg_go cells nc r pk (i+1) ar wi _ _ _ ho.2.2 hr;have g2:Kgo s1 s2/\(k=26->∃x,s2.2 n.toNat=some x/\kdE x=(kdF ks).getD 0 0)/\∀ x,s2.2 c=some x->(∃y,s1.2 c=some y)\/(k=26/\n.toNat=c):=by
   by_cases e:k=26
   ·rw[if_pos e] at h3;subst e;have hl1:=doc26 ho.1.1;have hp:=(kdE_bd (head_ok hl1 ho.2.1)).1;obtain⟨a1,x,a2,a3⟩:=keepP_go h3 hp;refine⟨a1,fun _=>⟨x,a2,by rw[a3,head_kd hl1]⟩,fun y hy=>?_⟩;rcases keepP_inv h3 with ⟨b1,b2⟩|⟨z,b1,b2,rfl⟩
    ·by_cases e:n.toNat=c
     ·exact .inr ⟨rfl,e⟩
     ·rw[b2] at hy;simp only at hy;rw[if_neg (fun h=>e h.symm)] at hy;exact .inl ⟨y,hy⟩
    ·exact .inl ⟨y,hy⟩
   ·rw[if_neg e] at h3;injection h3 with h3
    subst h3;exact⟨Kgo.refl _,fun h=>absurd h e,fun x hx=>.inl ⟨x,hx⟩⟩
  obtain⟨t1,c1⟩:=ck_F K c cells lv nc ks k 0 _ _ _ _ _ ho.2.1 hk (fun i x q=>hK i x (g3.up i x (g2.1.up i x q)));obtain⟨t3,c3⟩:=ck_F K c cells lv nc r pk (i+1) ar wi _ _ _ ho.2.2 hr hK;have hp:=ck_prt (K:=K) (i:=c) lv k n nm (kdF ks) (emF lv ks) ks.len ho.1.1 (emF_len lv ks) t1 (fun e=>by
   obtain⟨x,a1,a2⟩:=g2.2.1 e;rw[<-a2];exact hK _ _ (g3.up _ _ a1))
  refine⟨fun t ht=>?_,fun x q=>?_⟩
  ·rcases List.mem_cons.1 (show t ∈ prt lv k n nm (kdF ks) (emF lv ks)::emF lv r from ht) with rfl|ht
   ·exact fun ar u s=>(hp ar u s).mono (fun h=>h.elim)
   ·exact t3 t ht
  ·rcases c3 x q with ⟨y,hy⟩|⟨t,ht,hv⟩
   ·have hv:∀ (h:(k=26/\n.toNat=c)\/∃t ∈ emF lv ks,Vt K c t),∃t ∈ emF lv ⟨some ⟨k,n,nm,a,ks,r⟩⟩,Vt K c t:=fun h=>⟨_,List.mem_cons_self ..,fun ar u s=>(hp ar u s).mono (fun _=>h)⟩;rcases g2.2.2 y hy with ⟨z,hz⟩|h
    ·rcases c1 z hz with h|h
     ·exact .inl h
     ·exact .inr (hv (.inr h))
    ·exact .inr (hv (.inl h))
   ·exact .inr ⟨t,.tail _ ht,hv⟩
theorem kindP_one {cells:List Int}{e:Ex}(h:kindP cells e≠0):kindP cells e≠4/\∃s,rgF cells (one e) 0 0 0 0 (0,fun _=>none)=some (s,[kindP cells e]):=by
 unfold kindP at h ⊢;by_cases h1:256<cells.length\/cells.any (fun c=>decide (c<0)||decide (4<c))=true
 ·rw[if_pos h1] at h;exact absurd rfl h
 ·rw[if_neg h1] at h ⊢;cases hr:rgF cells (one e) 0 0 0 0 (0,fun _=>none) with
  | none=>rw[hr] at h;exact absurd rfl h
  | some z =>
   obtain⟨s,kd⟩:=z;rw[hr] at h
   match kd,h with
   | [],h=>exact absurd rfl h
   | [k],h =>
    simp only at h ⊢;by_cases h4:k=4
    ·rw[if_pos h4] at h;exact absurd rfl h
    ·rw[if_neg h4];exact⟨h4,s,rfl⟩
   | k::j::r,h=>exact absurd rfl h
def kcA (cells:List Int)(e:Ex)(n:Nat):Nat:=((emA cells e).ks.getD n 0).toNat
theorem tk_E {cells:List Int}{e:Ex}(h:kindP cells e≠0)(ho:okE cells.length e){nq:Nat}{sc:ScQ}(hn:nesF (one e)<=nq)(H:ScsQ nq (kcA cells e) sc):NdQ sc (emE cells e) (kindP cells e) 0/\kdE e=kindP cells e:=by
 obtain⟨h4,s,hs⟩:=kindP_one h;have ho':okF cells.length (one e):=⟨ho.1,ho.2,trivial⟩
 let K:Nat->Int:=fun i=>match s.2 i with|none=>1|some x=>kdE x
 have hK:∀ i x,s.2 i=some x->kdE x=K i:=fun i x q=>by simp only[K];rw[q]
 have hkc:∀ i x,s.2 i=some x->i<cells.length->kcA cells e i=(kdE x).toNat:=fun i x q hi=>by
  obtain⟨-,c⟩:=ck_F K i cells cells cells.length (one e) 0 0 0 0 _ _ _ ho' hs hK;rcases c x q with ⟨y,hy⟩|⟨t,ht,hv⟩
  ·cases hy
  ·have ht:t=emE cells e:=List.mem_singleton.1 ht;subst ht
   have:=(hv 0 0 (em0 cells)).vis trivial (by simpa [em0] using hi)
   unfold kcA;rw[show (emA cells e).ks=(emE cells e 0 0 (em0 cells)).ks from rfl,this,hK i x q]
 have:=(tk_F H cells cells cells.length (one e) 0 0 0 0 _ _ _ (Nat.le_refl 0) ho' hs (by simpa using hn) hkc (fun j v q=>by
  have:v=kindP cells e:=by
   cases j with
   | zero=>simpa using q.symm
   | succ j=>simp at q
  rw[this];constructor
  ·intro a;exact absurd a h4
  ·intro a;omega))
 have ht:emF cells (one e)=[emE cells e]:=rfl;rw[ht] at this;exact⟨this.1.1,this.2 0 _ rfl h4⟩
theorem inv_em0q (lv:List Int):Inv (em0 lv):=⟨List.nodup_nil,List.nodup_nil,fun x hx=>by simp[em0] at hx,fun x hx=>by simp[em0] at hx,fun i hi=>by simp[em0] at hi,fun i hi=>by simp[em0] at hi⟩
theorem tk_A {cells:List Int}{e:Ex}(h:kindP cells e≠0)(ho:okE cells.length e){nq:Nat}{sc:ScQ}(hn:nesF (one e)<=nq)(H:ScsQ nq (kcA cells e) sc)(hd:(emA cells e).dp<=1024) :
  ∃n,n+1=(emA cells e).ws.length/\(emA cells e).ws[n]?=some ⟨0,0,0⟩/\SegQ sc (fun _=>False) (emA cells e).ws 0 n ([],0) ([(kindP cells e).toNat],0):=by
 obtain⟨h4,-⟩:=kindP_one h;have hE:=(tk_E h ho hn H).1.1 h4 (fun _=>False) [] (em0 cells) (inv_em0q cells) hd (by simp);refine⟨(emE cells e 0 0 (em0 cells)).ws.length,by simp[emA,Em.lay],by simp[emA,Em.lay],?_⟩
 have:=hE.2 (emA cells e).ws (fun i a b=>by
  simp only[emA,Em.lay];exact List.getElem?_append_left b)
 exact this
open Go.RowKit
def tk:List UInt8->Nat->Nat->Nat × Nat × Nat
 | [],_,_=>(0,0,10)
 | c::r,i,u =>
  if i=9/\1<c.toNat then (0,0,11)
  else if 128<=c.toNat then tk r (i+1) (u+c.toNat % 128*128 ^ i)
  else if c.toNat=0/\0<i then (0,0,11)
  else (u+c.toNat*128 ^ i,i+1,0)
def sev:Nat->Nat->List UInt8
 | 0,u=>[UInt8.ofNat u]
 | f+1,u=>if u<128 then [UInt8.ofNat u] else UInt8.ofNat (u % 128+128)::sev f (u / 128)
def sevs (u:Int):List UInt8:=sev 9 u.toNat
open Go.ChangeShapes Go.WideShapes Go.ChangeAt Go.RowKit
def smlG (r:Nat):Bool:=decide (97<=r)&&decide (r<=122)
def digG (r:Nat):Bool:=decide (48<=r)&&decide (r<=57)
def wordsLG:List (List UInt8) :=
 [[97,108,108],[97,110,100],[97,114,111,117,110,100],[98,108,111,99,107],[98,111,116,116,108,101,110,101,99,107],[99,111,110,110,101,99,116,101,100],[99,111,117,110,116],[100,101,103,114,101,101],[101,108,115,101],
  [102,97,108,115,101],[105,102],[105,110],[108,101,97,115,116],[109,97,120],[109,105,110],[109,111,115,116],[110,111,116],[111,114],
  [114,101,112],[115,105,122,101],[115,111,109,101],[115,117,109],[116,104,101,110],[116,111,116,97,108],[116,114,117,101],[118,97,108,117,101],[118,101,114,116,105,99,101,115]]
def wordBG (t:List UInt8):Bool:=wordsLG.contains t
def innG (c:UInt8):Bool:=smlG c.toNat||digG c.toNat||c.toNat==95
def nameBG (t:List UInt8):Bool :=
 match t with
 | []=>false
 | c::r=>decide (r.length<12)&&smlG c.toNat&&r.all innG&&!wordBG t
theorem sml_cG (r:Nat)(w:World)(hr:r<=2147483647) :
  Calls Tryz.prog 142 #[.int .i32 (r:Nat)] w fun e w'=>e=.returned (.bool (smlG r))/\w'=w:=by
 by_cases h1:97<=r
 ·have g1:(97:Int)<=(r:Int):=by omega
  by_cases h2:r<=122
  ·have g2:(r:Int)<=122:=by omega
   have e0:smlG r=true:=by simp[smlG,h1,h2]
   rw[e0];clear e0;go_enter Tryz.func142,Tryz.ntmps142;go_wp2;go_ret;exact⟨rfl,rfl⟩
  ·have g2:¬(r:Int)<=122:=by omega
   have g3:decide ((r:Int)<=122)=false:=decide_eq_false g2;have e0:smlG r=false:=by simp[smlG];omega
   rw[e0];clear e0;go_enter Tryz.func142,Tryz.ntmps142;go_wp2;go_ret;exact⟨rfl,rfl⟩
 ·have g1:¬(97:Int)<=(r:Int):=by omega
  have e0:smlG r=false:=by simp[smlG];omega
  rw[e0];clear e0;go_enter Tryz.func142,Tryz.ntmps142;go_wp2;go_ret;exact⟨rfl,rfl⟩
theorem dig_cG (r:Nat)(w:World)(hr:r<=2147483647) :
  Calls Tryz.prog 143 #[.int .i32 (r:Nat)] w fun e w'=>e=.returned (.bool (digG r))/\w'=w:=by
 by_cases h1:48<=r
 ·have g1:(48:Int)<=(r:Int):=by omega
  by_cases h2:r<=57
  ·have g2:(r:Int)<=57:=by omega
   have e0:digG r=true:=by simp[digG,h1,h2]
   rw[e0];clear e0;go_enter Tryz.func143,Tryz.ntmps143;go_wp2;go_ret;exact⟨rfl,rfl⟩
  ·have g2:¬(r:Int)<=57:=by omega
   have g3:decide ((r:Int)<=57)=false:=decide_eq_false g2;have e0:digG r=false:=by simp[digG];omega
   rw[e0];clear e0;go_enter Tryz.func143,Tryz.ntmps143;go_wp2;go_ret;exact⟨rfl,rfl⟩
 ·have g1:¬(48:Int)<=(r:Int):=by omega
  have e0:digG r=false:=by simp[digG];omega
  rw[e0];clear e0;go_enter Tryz.func143,Tryz.ntmps143;go_wp2;go_ret;exact⟨rfl,rfl⟩
theorem str_neG {s t:ByteArray}(h:s≠t):(s.toList==t.toList)=false:=by
 rw[beq_eq_false_iff_ne,ByteArray.toList_eq,ByteArray.toList_eq];exact fun e=>h (ByteArray.ext (Array.toList_inj.1 e))
theorem str_fullG {s:ByteArray}(h:¬s.size=0):s.toList.isEmpty=false:=by
 rw[ByteArray.toList_eq,List.isEmpty_eq_false_iff];intro e;have h2:s.data.size=0:=by rw[<-Array.length_toList,e];rfl
 exact h h2
theorem bytes_eqG {s t:ByteArray}:s.data.toList=t.data.toList ↔ s=t :=
 ⟨fun e=>ByteArray.ext (Array.toList_inj.1 e),fun e=>by rw[e]⟩
theorem b0G (w:World):Below w.heap.size w w:=Below.refl _ _
theorem b1G (w:World)(o:Obj):Below w.heap.size w (w.alloc o):=(Below.refl _ w).alloc (Nat.le_refl _) _
structure Cd where
 ws:List Int
 cs:List Int
 ns:List ByteArray
 ks:List Int
abbrev opW (u:Int):Int:=u / 72057594037927936
abbrev aW (u:Int):Int:=u / 268435456 % 268435456
abbrev bW (u:Int):Int:=u % 268435456
abbrev within (a:Int)(n:Nat):Bool:=decide (0<=a)&&decide (a<(n:Int))
def wrdD (c:Cd)(o a b:Int):Bool :=
 if o=1 then within a c.cs.length&&(decide (b=1)||(decide (b=2)&&within (c.cs.getD a.toNat 0) 2))
 else if o=2 then within a c.cs.length&&decide (0<=c.cs.getD a.toNat 0)&&decide (b=0)
 else if o=3 then decide (a<=3)&&decide (b=0)
 else if o=11 then decide (a=0)&&(decide (1<=b)&&decide (b<=3))
 else if o=12 then decide (a=0)&&decide (b<=1)
 else if o=13\/o=14\/o=15\/o=24 then decide (b=0)
 else if o=16 then decide (1<=a)&&decide (a<=10)&&decide (b=0)
 else if o=17 then within a c.ks.length
 else if o=18\/o=19 then within a c.ks.length&&decide (b=0)
 else if o=21 then within a c.ns.length&&decide (b=0)
 else if o=23 then decide (a<=1024)&&decide (b=0)
 else if o=26 then decide (a<=1)&&decide (b=0)
 else decide (o<28)&&decide (a=0)&&decide (b=0)
def spn (c:Cd)(t:Nat):Int × Int :=
 match t with
 | 1=>(0,268435455)
 | 2=>(0,1)
 | 3=>(0,3)
 | 4=>(1,10)
 | 5=>(0,1024)
 | 6=>(1,2)
 | 7=>(1,3)
 | 8=>(0,(c.cs.length:Int)-1)
 | 9=>(0,(c.ns.length:Int)-1)
 | 10=>(0,(c.ks.length:Int)-1)
 | _=>(0,0)
def mayB (c:Cd)(t:Nat)(n:Int):Bool:=decide ((spn c t).1<=n)&&decide (n<=(spn c t).2)
def rulA:List Nat:=[0,8,8,3,0,0,0,0,0,0,0,0,0,1,1,1,4,10,10,10,0,9,0,5,1,0,2,0]
def rulB:List Nat:=[0,6,0,0,0,0,0,0,0,0,0,7,2,0,0,0,0,1,0,0,0,0,0,0,0,0,0,0]
def wrdP (c:Cd)(o a b:Int):Bool :=
 decide (o<28)&&mayB c (rulA.getD o.toNat 0) a&&mayB c (rulB.getD o.toNat 0) b &&
  (if o=1/\b=2 then mayB c 2 (c.cs.getD a.toNat 0) else if o=2 then decide (0<=c.cs.getD a.toNat 0) else true)
theorem wrd_same (c:Cd)(o a b:Int)(h0:0<=o)(h1:0<=a)(h2:a<268435456)(h3:0<=b)(h4:b<268435456):wrdP c o a b=wrdD c o a b:=by
 by_cases h28:o<28
 ·obtain⟨n,rfl⟩:=Int.eq_ofNat_of_zero_le h0;have hn:n<28:=by omega
  rw[Bool.eq_iff_iff]
  match n,hn with
  | 0,_ | 1,_ | 2,_ | 3,_ | 4,_ | 5,_ | 6,_ | 7,_ | 8,_ | 9,_ | 10,_ | 11,_ | 12,_ | 13,_ | 14,_ | 15,_ | 16,_ | 17,_ | 18,_ | 19,_ | 20,_ | 21,_ | 22,_ | 23,_ | 24,_ | 25,_ | 26,_ | 27,_ =>
   simp[wrdP,wrdD,mayB,rulA,rulB,spn];try split
   all_goals omega
 ·have e:wrdP c o a b=false:=by simp[wrdP,h28]
  rw[e];have hh:∀ k:Int,k<28->¬o=k:=fun k hk e=>by omega
  simp[wrdD,hh,h28]
def wrdB (c:Cd)(u:Int):Bool:=wrdD c (opW u) (aW u) (bW u)
def kndB (k:Int):Bool:=decide (1<=k)&&decide (k<=3)
def lenB (c:Cd):Bool:=decide (c.cs.length<=32768)&&decide (c.ns.length<=2000)&&decide (c.ks.length<=256)
def lstB (c:Cd):Bool:=lenB c&&c.ns.all (fun s=>nameBG s.data.toList)&&c.ks.all kndB
def wdsB (c:Cd):Bool:=decide (0<c.ws.length)&&decide (c.ws.length<=32768)&&c.ws.all (wrdB c)
def rgtB (c:Cd):Bool:=lstB c&&wdsB c
structure Cd.Ok (c:Cd):Prop where
 ws:∀ u ∈ c.ws,0<=u/\u<18446744073709551616
 cs:∀ u ∈ c.cs,-9223372036854775808<=u/\u<=9223372036854775807
 ks:∀ u ∈ c.ks,-9223372036854775808<=u/\u<=9223372036854775807
 ns:∀ s ∈ c.ns,s.size<=maxLen
def lst {α:Type}(f:α->List UInt8)(l:List α):List UInt8:=sevs (l.length:Int)++(l.map f).flatten
theorem rgt_names {c:Cd}(h:rgtB c=true):∀ s ∈ c.ns,s.size<=12:=by
 simp only[rgtB,lstB,wdsB,Bool.and_eq_true,List.all_eq_true] at h;intro s hs;have hn:=h.1.1.2 s hs;have hl:s.data.toList.length=s.size:=Array.length_toList;unfold nameBG at hn;split at hn
 ·cases hn
 ·rename_i hx
  simp only[Bool.and_eq_true,decide_eq_true_eq] at hn;rw[hx] at hl;simp at hl;omega
theorem rgt_kinds {c:Cd}(h:rgtB c=true):∀ k ∈ c.ks,1<=k/\k<=3:=by
 simp only[rgtB,lstB,wdsB,Bool.and_eq_true,List.all_eq_true] at h;intro k hk
 have:=h.1.2 k hk
 simpa [kndB] using this
abbrev StG:=List Nat × Nat
def kdC (c:Cd)(a:Nat):Nat:=(c.ks.getD a 0).toNat
def callE (a:Nat):List Nat × List Nat:=if a=1\/a=2 then ([3,3],[2]) else if a=3 then ([3,3],[1]) else if a=10 then ([3],[3]) else ([3],[1])
def effE (c:Cd)(o a b:Nat):List Nat × List Nat :=
 if o=1 then ([],[b]) else if o=2\/o=3 then ([],[3]) else if o=4 then ([1],[1]) else if o=5 then ([2],[2])
 else if 6<=o/\o<=10 then ([1,1],[1]) else if o=11 then ([b,b],[2]) else if o=12 then ([1,1],[2]) else if o=14\/o=15\/o=27 then ([2],[])
 else if o=16 then callE a else if o=18 then ([kdC c a],[kdC c a]) else if o=22 then ([3],[]) else if o=23 then (List.replicate a 3,[])
 else if o=26 then ([1,2,1],[1,2]) else ([],[])
def fitE (o a r:Nat):Bool:=if o=3 then decide (a<r) else if 20<=o/\o<=23 then decide (r<4) else if o=24\/o=25 then decide (0<r) else true
def opnE (o r:Nat):Nat:=if 20<=o/\o<=23 then r+1 else if o=25 then r-1 else r
def passF (c:Cd)(o a b:Nat)(s:StG):Nat ⊕ StG :=
 if fitE o a s.2=true then
  if s.1.drop (s.1.length-(effE c o a b).1.length)=(effE c o a b).1 then
   if s.1.length-(effE c o a b).1.length+(effE c o a b).2.length<=1024 then .inr (s.1.take (s.1.length-(effE c o a b).1.length)++(effE c o a b).2,opnE o s.2) else .inl 201
  else .inl (if o=18/\s.1≠[] then 203 else 201)
 else .inl 201
def leadF (c:Cd)(o a:Nat)(s:StG):Option StG:=if o=17 then (if s.1.length<1024 then some (s.1++[kdC c a],s.2) else none) else if o=24 then some (s.1,s.2-1) else some s
def ledTo (o a b:Nat):Option Nat:=if o=13\/o=14\/o=15\/o=24 then some a else if o=17 then some b else none
structure Vw where
 tb:List (Option StG)
 dn:List Bool
 st:Nat
 rd:Nat
 kd:Nat
def come (q:Nat)(s:StG)(v:Vw):Nat × Vw :=
 match v.tb[q]? with
 | none=>(200,v)
 | some (some t)=>(if t=s then 0 else 202,v)
 | some none=>(0,⟨v.tb.set q (some s),v.dn,max v.st s.1.length,max v.rd s.2,v.kd⟩)
def haltF (s:StG)(v:Vw):Nat × Vw :=
 if s.1.length=1/\s.2=0 then
  if v.kd≠0/\v.kd≠s.1.getD 0 0 then (202,v) else (0,⟨v.tb,v.dn,v.st,v.rd,s.1.getD 0 0⟩)
 else (201,v)
def goF (o a b k:Nat)(s d:StG)(v:Vw):Nat × Vw :=
 if (if o=13 then (0,v) else come (k+1) s v).1=0 then
  match ledTo o a b with
  | none=>(if o=13 then (0,v) else come (k+1) s v)
  | some q=>come q d (if o=13 then (0,v) else come (k+1) s v).2
 else (if o=13 then (0,v) else come (k+1) s v)
abbrev opN (c:Cd)(k:Nat):Nat:=(opW (c.ws.getD k 0)).toNat
abbrev aN (c:Cd)(k:Nat):Nat:=(aW (c.ws.getD k 0)).toNat
abbrev bN (c:Cd)(k:Nat):Nat:=(bW (c.ws.getD k 0)).toNat
def stA (v:Vw)(k:Nat):StG:=(v.tb.getD k none).getD ([],0)
def lookW (c:Cd)(o a b k:Nat)(s:StG)(v:Vw):Nat × Vw :=
 if o=0 then haltF s v else
 match passF c o a b s with
 | .inl e=>(e,v)
 | .inr t=>match leadF c o a t with
  | none=>(201,v)
  | some d=>goF o a b k t d v
def lookF (c:Cd)(k:Nat)(v:Vw):Nat × Vw:=lookW c (opN c k) (aN c k) (bN c k) k (stA v k) v
def waits (v:Vw)(i:Nat):Bool:=(v.tb.getD i none).isSome&&!(v.dn.getD i false)
def nxtF (v:Vw):Option Nat:=(List.range v.tb.length).find? (waits v)
def markF (k:Nat)(v:Vw):Vw:=⟨v.tb,v.dn.set k true,v.st,v.rd,v.kd⟩
abbrev ResG:=(Nat × Nat × Nat) × Nat × Nat
def finF (v:Vw):ResG:=if v.kd=0 then ((0,0,0),201,0) else ((v.st,v.rd,v.kd),0,0)
def verF (c:Cd):Nat->Vw->ResG
 | 0,v=>finF v
 | m+1,v=>match nxtF v with
  | none=>finF v
  | some k=>if (lookF c k (markF k v)).1=0 then verF c m (lookF c k (markF k v)).2 else ((0,0,0),(lookF c k (markF k v)).1,k)
def newF (n:Nat):Vw:=⟨(List.replicate n none).set 0 (some ([],0)),List.replicate n false,0,0,0⟩
def vrfA (c:Cd):ResG:=if rgtB c=true then verF c (c.ws.length+1) (newF c.ws.length) else ((0,0,0),180,0)
structure StOkG (s:StG):Prop where
 len:s.1.length<=1024
 kd:∀ k ∈ s.1,1<=k/\k<=3
 rd:s.2<=4
structure VwOk (n:Nat)(v:Vw):Prop where
 tl:v.tb.length=n
 dl:v.dn.length=n
 sts:∀ (i:Nat) (s:StG),v.tb[i]?=some (some s)->StOkG s
 st:v.st<=1024
 rd:v.rd<=4
 kd:v.kd<=3
structure WdR (c:Cd)(o a b:Nat):Prop where
 ol:o<28
 al:a<268435456
 bl:b<268435456
 c1:o=1->1<=b/\b<=2
 c11:o=11->1<=b/\b<=3
 c16:o=16->1<=a/\a<=10
 c17:o=17\/o=18\/o=19->a<c.ks.length
 c23:o=23->a<=1024
theorem wdr_of {c:Cd}(ho:c.Ok)(h:rgtB c=true){k:Nat}(hk:k<c.ws.length):WdR c (opN c k) (aN c k) (bN c k):=by
 have hw:=ho.ws _ (List.getElem_mem hk);have e:c.ws.getD k 0=c.ws[k]:=by simp[List.getD_eq_getElem?_getD,List.getElem?_eq_getElem hk]
 simp only[rgtB,wdsB,Bool.and_eq_true,List.all_eq_true] at h;have hr:=h.2.2 _ (List.getElem_mem hk);unfold opN aN bN;rw[e];generalize c.ws[k]=u at *;unfold wrdB at hr;have h0:0<=opW u:=by show 0<=u / 72057594037927936;omega
 have h1:0<=aW u/\aW u<268435456:=by show 0<=u / 268435456 % 268435456/\u / 268435456 % 268435456<268435456;omega
 have h2:0<=bW u/\bW u<268435456:=by show 0<=u % 268435456/\u % 268435456<268435456;omega
 obtain⟨o,ho'⟩:=Int.eq_ofNat_of_zero_le h0;obtain⟨a,ha'⟩:=Int.eq_ofNat_of_zero_le h1.1;obtain⟨b,hb'⟩:=Int.eq_ofNat_of_zero_le h2.1;rw[ho',ha',hb'] at hr;rw[ha'] at h1;rw[hb'] at h2;rw[ho',ha',hb'];simp only[Int.toNat_natCast];clear ho' ha' hb' h0 e hw;have ho28:o<28:=by
  by_cases h28:o<28
  ·exact h28
  ·exfalso;have hh:∀ k:Int,k<28->¬(o:Int)=k:=fun k hk e=>by omega
   simp[wrdD,hh,h28] at hr;omega
 refine⟨ho28,by omega,by omega,?_,?_,?_,?_,?_⟩
 ·rintro rfl;simp[wrdD,within] at hr;omega
 ·rintro rfl;simp[wrdD,within] at hr;omega
 ·rintro rfl;simp[wrdD,within] at hr;omega
 ·rintro (rfl|rfl|rfl)<;>(simp[wrdD,within] at hr;omega)
 ·rintro rfl;simp[wrdD,within] at hr;omega
theorem kdC_ok {c:Cd}(h:rgtB c=true){a:Nat}(ha:a<c.ks.length):1<=kdC c a/\kdC c a<=3:=by
 have:=rgt_kinds h _ (List.getElem_mem ha)
 unfold kdC;rw[show c.ks.getD a 0=c.ks[a] by simp[List.getD_eq_getElem?_getD,List.getElem?_eq_getElem ha]];omega
theorem call_push (a:Nat):∀ k ∈ (callE a).2,1<=k/\k<=3:=by
 intro k hk;unfold callE at hk;by_cases h1:a=1\/a=2
 ·rw[if_pos h1] at hk;simp at hk;omega
 ·rw[if_neg h1] at hk;by_cases h2:a=3
  ·rw[if_pos h2] at hk;simp at hk;omega
  ·rw[if_neg h2] at hk;by_cases h3:a=10
   ·rw[if_pos h3] at hk;simp at hk;omega
   ·rw[if_neg h3] at hk;simp at hk;omega
theorem eff_push {c:Cd}(h:rgtB c=true){o a b:Nat}(W:WdR c o a b):∀ k ∈ (effE c o a b).2,1<=k/\k<=3:=by
 intro k hk;have h1:=W.c1;have h18:=fun e:o=18=>kdC_ok h (W.c17 (Or.inr (Or.inl e)));have h16:=call_push a;have ho:=W.ol;clear W
 match o,ho with
 | 0,_ | 1,_ | 2,_ | 3,_ | 4,_ | 5,_ | 6,_ | 7,_ | 8,_ | 9,_ | 10,_ | 11,_ | 12,_ | 13,_ | 14,_ | 15,_ | 16,_ | 17,_ | 18,_ | 19,_ | 20,_ | 21,_ | 22,_ | 23,_ | 24,_ | 25,_ | 26,_ | 27,_ =>
  simp[effE] at hk h1 h18
  all_goals first|omega|exact h16 _ hk|(subst hk;exact h18)
theorem opn_le {o a r:Nat}(hf:fitE o a r=true)(h:r<=4):opnE o r<=4:=by
 unfold fitE opnE at *
 repeat' split at hf
 all_goals repeat' split
 all_goals simp at hf
 all_goals omega
theorem pass_ok {c:Cd}(h:rgtB c=true){o a b:Nat}(W:WdR c o a b){s t:StG}(S:StOkG s)(hp:passF c o a b s=.inr t):StOkG t:=by
 unfold passF at hp;split at hp
 ·rename_i hf
  split at hp
  ·split at hp
   ·rename_i hl
    cases hp;refine⟨?_,?_,opn_le hf S.rd⟩
    ·simp only[List.length_append,List.length_take]
     have:=S.len
     omega
    ·intro k hk;rcases List.mem_append.1 hk with hk|hk
     ·exact S.kd k (List.mem_of_mem_take hk)
     ·exact eff_push h W k hk
   ·cases hp
  ·cases hp
 ·cases hp
theorem lead_ok {c:Cd}(h:rgtB c=true){o a b:Nat}(W:WdR c o a b){s t:StG}(S:StOkG s)(hp:leadF c o a s=some t):StOkG t:=by
 unfold leadF at hp;split at hp
 ·rename_i e
  split at hp
  ·cases hp;refine⟨by simp;omega,?_,S.rd⟩;intro k hk;rcases List.mem_append.1 hk with hk|hk
   ·exact S.kd k hk
   ·have:=kdC_ok h (W.c17 (Or.inl e))
    simp at hk;subst hk;exact this
  ·cases hp
 ·split at hp
  ·cases hp;exact⟨S.len,S.kd,by have:=S.rd;dsimp only;omega⟩
  ·cases hp;exact S
theorem come_ok {n q:Nat}{s:StG}{v:Vw}(V:VwOk n v)(S:StOkG s):VwOk n (come q s v).2/\(come q s v).2.dn=v.dn:=by
 unfold come;split
 ·exact⟨V,rfl⟩
 ·exact⟨V,rfl⟩
 ·refine⟨⟨by simpa using V.tl,V.dl,?_,?_,?_,V.kd⟩,rfl⟩
  ·intro i t ht;rw[List.getElem?_set] at ht;split at ht
   ·split at ht
    ·simp at ht;subst ht;exact S
    ·cases ht
   ·exact V.sts i t ht
  ·have:=V.st;have:=S.len;dsimp only;omega
  ·have:=V.rd;have:=S.rd;dsimp only;omega
theorem halt_ok {n:Nat}{s:StG}{v:Vw}(V:VwOk n v)(S:StOkG s):VwOk n (haltF s v).2/\(haltF s v).2.dn=v.dn:=by
 unfold haltF;split
 ·rename_i h1
  split
  ·exact⟨V,rfl⟩
  ·refine⟨⟨V.tl,V.dl,V.sts,V.st,V.rd,?_⟩,rfl⟩;have h2:s.1.getD 0 0 ∈ s.1:=by
    rw[List.getD_eq_getElem?_getD,List.getElem?_eq_getElem (by omega)];exact List.getElem_mem _
   exact(S.kd _ h2).2
 ·exact⟨V,rfl⟩
theorem mark_ok {n k:Nat}{v:Vw}(V:VwOk n v):VwOk n (markF k v):=⟨V.tl,by simpa [markF] using V.dl,V.sts,V.st,V.rd,V.kd⟩
def und (v:Vw):Nat:=v.dn.countP (fun b=>!b)
theorem und_mark {v:Vw}{k:Nat}(hk:k<v.dn.length)(h:v.dn.getD k false=false):und (markF k v)+1=und v:=by
 unfold und markF
 dsimp only
 have h2:v.dn[k]=false:=by
  rw[List.getD_eq_getElem?_getD,List.getElem?_eq_getElem hk] at h;exact h
 have e:v.dn=v.dn.take k++false::v.dn.drop (k+1):=by
  rw[<-h2,List.getElem_cons_drop,List.take_append_drop]
 have e2:v.dn.set k true=v.dn.take k++true::v.dn.drop (k+1):=List.set_eq_take_append_cons_drop.trans (by rw[if_pos hk]);rw[e2]
 conv=>rhs;rw[e]
 simp only[List.countP_append,List.countP_cons];simp;omega
theorem nxt_some {v:Vw}{k:Nat}(h:nxtF v=some k):k<v.tb.length/\waits v k=true/\∀ j,j<k->waits v j=false:=by
 unfold nxtF at h;have h1:=List.find?_some h;have h2:=List.mem_of_find?_eq_some h;refine⟨List.mem_range.1 h2,h1,fun j hj=>?_⟩;rw[List.find?_range_eq_some] at h
 have:=h.2.2 j hj
 simpa using this
theorem nxt_none {v:Vw}(h:nxtF v=none):∀ j,waits v j=false:=by
 intro j;unfold nxtF at h;by_cases hj:j<v.tb.length
 ·have:=List.find?_eq_none.1 h j (List.mem_range.2 hj)
  simpa using this
 ·unfold waits;rw[List.getD_eq_getElem?_getD,List.getElem?_eq_none (by omega)];rfl
theorem nxt_no {v:Vw}(h:∀ j,j<v.tb.length->waits v j=false):nxtF v=none:=by
 unfold nxtF;rw[List.find?_eq_none];intro j hj;simp[h j (List.mem_range.1 hj)]
theorem new_ok {n:Nat}:VwOk n (newF n):=by
 refine⟨by simp[newF],by simp[newF],?_,by simp[newF],by simp[newF],by simp[newF]⟩;intro i s h;simp only[newF] at h;rw[List.getElem?_set] at h;split at h
 ·split at h
  ·simp at h;subst h;exact⟨by simp,by simp,by simp⟩
  ·cases h
 ·rw[List.getElem?_replicate] at h;split at h
  ·simp at h
  ·cases h
theorem und_new {n:Nat}:und (newF n)=n:=by
 unfold und newF
 induction n with
 | zero=>rfl
 | succ n ih=>simp only[List.replicate_succ,List.countP_cons] at *;simp;omega
theorem verF_none {c:Cd}{m:Nat}{v:Vw}(h:nxtF v=none):verF c m v=finF v:=by
 cases m with
 | zero=>rfl
 | succ m=>rw[verF,h]
theorem verF_next {c:Cd}{m k:Nat}{v:Vw}(h:nxtF v=some k)(he:(lookF c k (markF k v)).1=0):verF c (m+1) v=verF c m (lookF c k (markF k v)).2:=by
 rw[verF,h]
 dsimp only
 rw[if_pos he]
structure StpV (c:Cd)(σ:Nat->StG)(n N i:Nat):Prop where
 nz:opN c i≠0
 go:(σ i).1.length<=1024->∃t d,passF c (opN c i) (aN c i) (bN c i) (σ i)=.inr t/\leadF c (opN c i) (aN c i) t=some d/\(opN c i≠13->i+1<=n/\t=σ (i+1))/\∀ q,ledTo (opN c i) (aN c i) (bN c i)=some q->q<=n/\d=σ q
 rd:20<=opN c i->opN c i<=23->(σ i).2<N
structure CodV (c:Cd)(σ:Nat->StG)(n N k:Nat):Prop where
 len:n+1=c.ws.length
 beg:σ 0=([],0)
 last:σ n=([k],0)
 kp:k≠0
 hlt:opN c n=0
 stp:∀ i,i<n->StpV c σ n N i
 rch:∀ Kn:Nat->Prop,(∀ i,i<n->Kn i->(opN c i≠13->Kn (i+1))/\∀ q,ledTo (opN c i) (aN c i) (bN c i)=some q->Kn q)->Kn 0->Kn n
abbrev knw (v:Vw)(i:Nat):Prop:=∃s,v.tb[i]?=some (some s)
structure IvV (c:Cd)(σ:Nat->StG)(n N k:Nat)(v:Vw):Prop where
 ok:VwOk c.ws.length v
 kn:∀ i s,v.tb[i]?=some (some s)->s=σ i/\i<=n/\s.2<=N/\s.1.length<=v.st
 rd:v.rd<=N
 kd:v.kd=0\/v.kd=k
 k0:knw v 0
def sucV (c:Cd)(n k:Nat)(v:Vw)(i:Nat):Prop:=(i<n->(opN c i≠13->knw v (i+1))/\∀ q,ledTo (opN c i) (aN c i) (bN c i)=some q->knw v q)/\(i=n->v.kd=k)
structure MorV (v w:Vw):Prop where
 dn:w.dn=v.dn
 kn:∀ i,knw v i->knw w i
 kd:v.kd≠0->w.kd=v.kd
theorem come_v {c:Cd}{σ:Nat->StG}{n N k:Nat}{v:Vw}(C:CodV c σ n N k)(I:IvV c σ n N k v){q:Nat}{s:StG}(hs:s=σ q)(hq:q<=n)(h2:s.2<=N)(S:StOkG s) :
  (come q s v).1=0/\IvV c σ n N k (come q s v).2/\MorV v (come q s v).2/\knw (come q s v).2 q/\(come q s v).2.kd=v.kd:=by
 have hV:=(come_ok (q:=q) I.ok S).1;have hql:q<v.tb.length:=by have:=I.ok.tl;have:=C.len;omega
 unfold come at hV ⊢;obtain⟨x,hx⟩:∃x,v.tb[q]?=some x:=⟨_,List.getElem?_eq_getElem hql⟩
 rw[hx] at hV ⊢;cases x with
 | some t =>
  have ht:=(I.kn q t hx).1;simp only;refine⟨by rw[ht,hs,if_pos rfl],I,⟨rfl,fun i h=>h,fun _=>rfl⟩,⟨t,hx⟩,trivial⟩
 | none =>
  simp only at hV ⊢;have hk:∀ i,knw v i->knw ⟨v.tb.set q (some s),v.dn,max v.st s.1.length,max v.rd s.2,v.kd⟩ i:=fun i ⟨t,ht⟩=>by
   by_cases e:q=i
   ·subst e;rw[hx] at ht;cases ht
   ·exact⟨t,by simp only[List.getElem?_set,if_neg e];exact ht⟩
  refine⟨trivial,⟨hV,fun i t ht=>?_,?_,I.kd,hk 0 I.k0⟩,⟨rfl,hk,fun _=>rfl⟩,⟨s,by simp[List.getElem?_set,hql]⟩,trivial⟩
  ·simp only[List.getElem?_set] at ht;by_cases e:q=i
   ·rw[if_pos e,if_pos hql] at ht;injection ht with ht
    injection ht with ht
    subst ht;subst e;refine⟨hs,hq,h2,by dsimp only;omega⟩
   ·rw[if_neg e] at ht;obtain⟨a,b,d,f⟩:=I.kn i t ht;exact⟨a,b,d,by dsimp only;omega⟩
  ·have:=I.rd
   dsimp only
   omega
theorem opn_N {o a r N:Nat}(h:20<=o->o<=23->r<N)(hr:r<=N):opnE o r<=N:=by
 unfold opnE;split
 ·rename_i e;have:=h e.1 e.2;omega
 ·split<;>omega
theorem pass_rd {c:Cd}{o a b:Nat}{s t:StG}(h:passF c o a b s=.inr t):t.2=opnE o s.2:=by
 unfold passF at h;split at h
 ·split at h
  ·split at h
   ·injection h with h;subst h;rfl
   ·cases h
  ·cases h
 ·cases h
theorem lead_rd {c:Cd}{o a:Nat}{s t:StG}(h:leadF c o a s=some t):t.2<=s.2:=by
 unfold leadF at h;split at h
 ·split at h
  ·injection h with h;subst h;exact Nat.le_refl _
  ·cases h
 ·split at h
  ·injection h with h;subst h;show s.2-1<=s.2;omega
  ·injection h with h;subst h;exact Nat.le_refl _
theorem go_v {c:Cd}{σ:Nat->StG}{n N k:Nat}{v:Vw}(hc:c.Ok)(hr:rgtB c=true)(C:CodV c σ n N k)(I:IvV c σ n N k v){i:Nat}(hi:i<n)(hk:knw v i) :
  (lookW c (opN c i) (aN c i) (bN c i) i (σ i) v).1=0/\IvV c σ n N k (lookW c (opN c i) (aN c i) (bN c i) i (σ i) v).2/\MorV v (lookW c (opN c i) (aN c i) (bN c i) i (σ i) v).2/\sucV c n k (lookW c (opN c i) (aN c i) (bN c i) i (σ i) v).2 i:=by
 have T:=C.stp i hi;have W:=wdr_of hc hr (show i<c.ws.length by have:=C.len;omega);obtain⟨s,hs⟩:=hk;obtain⟨e1,-,e3,-⟩:=I.kn i s hs;have S:StOkG (σ i):=by rw[<-e1];exact I.ok.sts i s hs
 obtain⟨t,d,h1,h2,h3,h4⟩:=T.go S.len;have StG:=pass_ok hr W S h1;have Sd:=lead_ok hr W StG h2;have rt:t.2<=N:=by
  rw[pass_rd h1];exact opn_N (a:=0) T.rd (by rw[<-e1];exact e3)
 have rd:d.2<=N:=Nat.le_trans (lead_rd h2) rt;unfold lookW;rw[if_neg T.nz,h1];simp only;rw[h2];simp only;unfold goF;obtain⟨r,hrr⟩:∃r,r=(if opN c i=13 then (0,v) else come (i+1) t v):=⟨_,rfl⟩
 have R:r.1=0/\IvV c σ n N k r.2/\MorV v r.2/\(opN c i≠13->knw r.2 (i+1)):=by
  by_cases e:opN c i=13
  ·rw[if_pos e] at hrr;subst hrr;exact⟨rfl,I,⟨rfl,fun _ h=>h,fun _=>rfl⟩,fun h=>absurd e h⟩
  ·rw[if_neg e] at hrr;obtain⟨a1,a2⟩:=h3 e;obtain⟨b1G,b2,b3,b4,-⟩:=come_v C I a2 a1 rt StG;subst hrr;exact⟨b1G,b2,b3,fun _=>b4⟩
 rw[<-hrr];obtain⟨r1,r2,r3,r4⟩:=R;rw[if_pos r1];cases hl:ledTo (opN c i) (aN c i) (bN c i) with
 | none =>
  simp only;exact⟨r1,r2,r3,fun _=>⟨r4,fun q hq=>by rw[hl] at hq;cases hq⟩,fun e=>by omega⟩
 | some q =>
  simp only;obtain⟨a1,a2⟩:=h4 q hl;obtain⟨b1G,b2,b3,b4,b5⟩:=come_v C r2 a2 a1 rd Sd;refine⟨b1G,b2,⟨b3.dn.trans r3.dn,fun j h=>b3.kn j (r3.kn j h),fun h=>by rw[b5];exact r3.kd h⟩,fun _=>⟨fun h=>b3.kn _ (r4 h),fun q' hq=>?_⟩,fun e=>by omega⟩;rw[hl] at hq;injection hq with hq
  subst hq;exact b4
theorem halt_v {c:Cd}{σ:Nat->StG}{n N k:Nat}{v:Vw}(hc:c.Ok)(hr:rgtB c=true)(C:CodV c σ n N k)(I:IvV c σ n N k v)(hk:knw v n) :
  (lookW c (opN c n) (aN c n) (bN c n) n (σ n) v).1=0/\IvV c σ n N k (lookW c (opN c n) (aN c n) (bN c n) n (σ n) v).2/\MorV v (lookW c (opN c n) (aN c n) (bN c n) n (σ n) v).2/\sucV c n k (lookW c (opN c n) (aN c n) (bN c n) n (σ n) v).2 n:=by
 have W:=wdr_of hc hr (show n<c.ws.length by have:=C.len;omega);obtain⟨s,hs⟩:=hk;obtain⟨e1,-,-,-⟩:=I.kn n s hs;have S:StOkG (σ n):=by rw[<-e1];exact I.ok.sts n s hs
 have hV:=(halt_ok I.ok S).1;unfold lookW;rw[if_pos C.hlt];unfold haltF at hV ⊢;rw[C.last] at hV ⊢;have h1:(([k],0):StG).1.length=1/\(([k],0):StG).2=0:=⟨rfl,rfl⟩
 have h2:¬(v.kd≠0/\v.kd≠(([k],0):StG).1.getD 0 0):=fun h=>by rcases I.kd with a|a;exact h.1 a;exact h.2 a
 rw[if_pos h1,if_neg h2] at hV ⊢;exact⟨rfl,⟨hV,I.kn,I.rd,.inr rfl,I.k0⟩,⟨rfl,fun _ h=>h,fun h=>by rcases I.kd with a|a;exact absurd a h;exact a.symm⟩,fun h=>absurd h (Nat.lt_irrefl _),fun _=>rfl⟩
theorem ver_v {c:Cd}{σ:Nat->StG}{n N k:Nat}(hc:c.Ok)(hr:rgtB c=true)(C:CodV c σ n N k):∀ (m:Nat) (v:Vw),IvV c σ n N k v->(∀ i,v.dn.getD i false=true->sucV c n k v i)->und v<=m ->
  ∃st rd,verF c m v=((st,rd,k),0,0)/\1<=st/\st<=1024/\rd<=N:=by
 intro m;have hend:∀ v:Vw,IvV c σ n N k v->(∀ i,v.dn.getD i false=true->sucV c n k v i)->nxtF v=none->∃st rd,finF v=((st,rd,k),0,0)/\1<=st/\st<=1024/\rd<=N:=by
  intro v I D hn;have hdn:∀ i,knw v i->v.dn.getD i false=true:=fun i ⟨s,hs⟩=>by
   have:=nxt_none hn i
   unfold waits at this;rw[List.getD_eq_getElem?_getD,hs] at this;simpa using this
  have kn:knw v n:=C.rch (knw v) (fun i hi hk=>(D i (hdn i hk)).1 hi) I.k0;have hkd:=(D n (hdn n kn)).2 rfl;obtain⟨s,hs⟩:=kn;obtain⟨e1,-,-,e4⟩:=I.kn n s hs;refine⟨v.st,v.rd,?_,?_,I.ok.st,I.rd⟩
  ·unfold finF;rw[hkd,if_neg C.kp]
  ·rw[e1,C.last] at e4;simpa using e4
 induction m with
 | zero =>
  intro v I D hu;have hn:nxtF v=none:=nxt_no (fun j hj=>by
   unfold waits
   have:v.dn.getD j false=true:=by
    have hj':j<v.dn.length:=by have:=I.ok.dl;have:=I.ok.tl;omega
    have h0:v.dn.countP (fun b=>!b)=0:=Nat.le_zero.1 hu;rw[List.countP_eq_zero] at h0
    have:=h0 v.dn[j] (List.getElem_mem hj')
    rw[List.getD_eq_getElem?_getD,List.getElem?_eq_getElem hj'];simpa using this
   rw[this];simp)
  exact hend v I D hn
 | succ m ih =>
  intro v I D hu;cases hn:nxtF v with
  | none=>rw[verF_none hn];exact hend v I D hn
  | some i =>
   obtain⟨a1,a2,-⟩:=nxt_some hn;unfold waits at a2;rw[Bool.and_eq_true] at a2;obtain⟨s,hs⟩:knw v i:=by
    have:=a2.1
    rw[List.getD_eq_getElem?_getD,List.getElem?_eq_getElem a1] at this;obtain⟨s,hs⟩:=Option.isSome_iff_exists.1 this;exact⟨s,by rw[List.getElem?_eq_getElem a1];exact congrArg some hs⟩
   obtain⟨e1,e2,-,-⟩:=I.kn i s hs;have hst:stA (markF i v) i=σ i:=by
    unfold stA markF
    dsimp only
    rw[List.getD_eq_getElem?_getD,hs,<-e1];rfl
   have I':IvV c σ n N k (markF i v):=⟨mark_ok I.ok,I.kn,I.rd,I.kd,I.k0⟩
   have hkn:knw (markF i v) i:=⟨s,hs⟩
   have R:(lookF c i (markF i v)).1=0/\IvV c σ n N k (lookF c i (markF i v)).2/\MorV (markF i v) (lookF c i (markF i v)).2/\sucV c n k (lookF c i (markF i v)).2 i:=by
    unfold lookF;rw[hst];by_cases e:i<n
    ·exact go_v hc hr C I' e hkn
    ·obtain rfl:i=n:=by omega
     exact halt_v hc hr C I' hkn
   obtain⟨r1,r2,r3,r4⟩:=R;rw[verF_next hn r1];have hil:i<v.dn.length:=by have:=I.ok.dl;have:=I.ok.tl;omega
   have hnd:v.dn.getD i false=false:=by simpa using a2.2
   refine ih _ r2 (fun j hj=>?_) ?_
   ·by_cases e:j=i
    ·subst e;exact r4
    ·have hj':v.dn.getD j false=true:=by
      rw[r3.dn] at hj;simp only[markF,List.getD_eq_getElem?_getD,List.getElem?_set] at hj ⊢;rw[if_neg (fun h=>e h.symm)] at hj;exact hj
     obtain⟨b1G,b2⟩:=D j hj';refine⟨fun h=>⟨fun q=>r3.kn _ ((b1G h).1 q),fun q hq=>r3.kn _ ((b1G h).2 q hq)⟩,fun h=>?_⟩
     have:=b2 h
     rw[r3.kd (by show v.kd≠0;rw[this];exact C.kp)];exact this
   ·have h1:=und_mark hil hnd;have h2:und (lookF c i (markF i v)).2=und (markF i v):=by unfold und;rw[r3.dn]
    omega
theorem vrf_of {c:Cd}{σ:Nat->StG}{n N k:Nat}(hc:c.Ok)(hr:rgtB c=true)(C:CodV c σ n N k):∃st rd,vrfA c=((st,rd,k),0,0)/\1<=st/\st<=1024/\rd<=N:=by
 unfold vrfA;rw[if_pos hr];have hl:=C.len;refine ver_v hc hr C _ _ ⟨new_ok,fun i s h=>?_,by simp[newF],.inl rfl,⟨([],0),by simp[newF,<-hl]⟩⟩ (fun i h=>?_) (by rw[und_new];omega)
 ·simp only[newF] at h;rw[List.getElem?_set] at h;split at h
  ·rename_i e
   subst e;split at h
   ·injection h with h
    injection h with h
    subst h;exact⟨C.beg.symm,Nat.zero_le _,Nat.zero_le _,Nat.zero_le _⟩
   ·cases h
  ·rw[List.getElem?_replicate] at h;split at h
   ·simp at h
   ·cases h
 ·simp only[newF,List.getD_eq_getElem?_getD,List.getElem?_replicate] at h;split at h<;>simp at h
def scV (c:Cd)(nq:Nat):ScQ:=fun x i s =>
 if x.op=13 then some [(x.a,s)] else if x.op=0\/(20<=x.op/\x.op<=23/\¬s.2<nq)\/1024<s.1.length then none else
 match passF c x.op x.a x.b s with
 | .inl _=>none
 | .inr t=>match leadF c x.op x.a t with
  | none=>none
  | some d=>some ((i+1,t)::(match ledTo x.op x.a x.b with|none=>[] | some q=>[(q,d)]))
theorem pass_pop {c:Cd}{o a b:Nat}(l p u:List Nat)(r:Nat)(he:effE c o a b=(p,u))(hf:fitE o a r=true)(hl:l.length+u.length<=1024):passF c o a b (l++p,r)=.inr (l++u,opnE o r):=by
 unfold passF;rw[if_pos hf,he];simp only;have h1:(l++p).length-p.length=l.length:=by simp
 rw[h1,List.drop_left,if_pos rfl,if_pos hl,List.take_left]
theorem scV_q (c:Cd)(nq:Nat)(h4:nq<=4):ScsQ nq (kdC c) (scV c nq):=by
 have pp:∀ (o a b k:Nat) (l p u:List Nat) (r:Nat),l.length+p.length<=1024->o≠0->o≠13->o≠14->o≠15->o≠17->o≠24->effE c o a b=(p,u)->fitE o a r=true->l.length+u.length<=1024->(20<=o->o<=23->r<nq)->scV c nq ⟨o,a,b⟩ k (l++p,r)=some [(k+1,(l++u,opnE o r))]:=by
  intro o a b k l p u r hp n0 n13 n14 n15 n17 n24 he hf hl hr;unfold scV
  dsimp only
  rw[if_neg n13,if_neg (by rintro (h|h|h);exact n0 h;exact h.2.2 (hr h.1 h.2.1);simp at h;omega),pass_pop l p u r he hf hl];simp[leadF,ledTo,n13,n14,n15,n17,n24]
 have e0:∀ l:List Nat,l++[]=l:=List.append_nil;constructor
 case w1=>intro a b k l r h;have:=pp 1 a b k l [] [b] r (by simp only[List.length_cons,List.length_nil,List.length_replicate];omega) (by decide) (by decide) (by decide) (by decide) (by decide) (by decide) rfl rfl (by simpa using h) (by omega);rwa [e0] at this
 case w2=>intro a b k l r h;have:=pp 2 a b k l [] [3] r (by simp only[List.length_cons,List.length_nil,List.length_replicate];omega) (by decide) (by decide) (by decide) (by decide) (by decide) (by decide) rfl rfl (by simpa using h) (by omega);rwa [e0] at this
 case w3=>intro a b k l r h h2;have:=pp 3 a b k l [] [3] r (by simp only[List.length_cons,List.length_nil,List.length_replicate];omega) (by decide) (by decide) (by decide) (by decide) (by decide) (by decide) rfl (by simpa [fitE] using h2) (by simpa using h) (by omega);rwa [e0] at this
 case w4=>intro a b k l r h;exact pp 4 a b k l [1] [1] r (by simp only[List.length_cons,List.length_nil,List.length_replicate];omega) (by decide) (by decide) (by decide) (by decide) (by decide) (by decide) rfl rfl (by simpa using h) (by omega)
 case w5=>intro a b k l r h;exact pp 5 a b k l [2] [2] r (by simp only[List.length_cons,List.length_nil,List.length_replicate];omega) (by decide) (by decide) (by decide) (by decide) (by decide) (by decide) rfl rfl (by simpa using h) (by omega)
 case w6 =>
  intro o a b k l r h1 h2 h;have he:effE c o a b=([1,1],[1]):=by
   unfold effE;rw[if_neg (by omega),if_neg (by omega),if_neg (by omega),if_neg (by omega),if_pos ⟨h1,h2⟩]
  have hf:fitE o a r=true:=by unfold fitE;rw[if_neg (by omega),if_neg (by omega),if_neg (by omega)]
  have:=pp o a b k l [1,1] [1] r (by simp only[List.length_cons,List.length_nil,List.length_replicate];omega) (by omega) (by omega) (by omega) (by omega) (by omega) (by omega) he hf (by simp;omega) (by omega)
  rwa [show opnE o r=r by unfold opnE;rw[if_neg (by omega),if_neg (by omega)]] at this
 case w11=>intro a b k l r h;exact pp 11 a b k l [b,b] [2] r (by simp only[List.length_cons,List.length_nil,List.length_replicate];omega) (by decide) (by decide) (by decide) (by decide) (by decide) (by decide) rfl rfl (by simp;omega) (by omega)
 case w12=>intro a b k l r h;exact pp 12 a b k l [1,1] [2] r (by simp only[List.length_cons,List.length_nil,List.length_replicate];omega) (by decide) (by decide) (by decide) (by decide) (by decide) (by decide) rfl rfl (by simp;omega) (by omega)
 case w13=>intro a b k s;rfl
 case w14 =>
  intro o a b k l r h1 h;have hp:passF c o a b (l++[2],r)=.inr (l,r):=by
   have:=pass_pop (c:=c) (o:=o) (a:=a) (b:=b) l [2] [] r (by rcases h1 with rfl|rfl<;>rfl) (by rcases h1 with rfl|rfl<;>rfl) (by simp;omega)
   rw[this,e0];rcases h1 with rfl|rfl<;>rfl
  unfold scV
  dsimp only
  rw[if_neg (by omega),if_neg (by simp;omega),hp];rcases h1 with rfl|rfl<;>simp[leadF,ledTo]
 case w16a =>
  intro a b k l r h1 h;have he:effE c 16 a b=([3,3],[2]):=by show callE a=_;unfold callE;rw[if_pos h1]
  exact pp 16 a b k l [3,3] [2] r (by simp only[List.length_cons,List.length_nil,List.length_replicate];omega) (by decide) (by decide) (by decide) (by decide) (by decide) (by decide) he rfl (by simp;omega) (by omega)
 case w16b=>intro b k l r h;exact pp 16 3 b k l [3,3] [1] r (by simp only[List.length_cons,List.length_nil,List.length_replicate];omega) (by decide) (by decide) (by decide) (by decide) (by decide) (by decide) rfl rfl (by simp;omega) (by omega)
 case w16c=>intro b k l r h;exact pp 16 10 b k l [3] [3] r (by simp only[List.length_cons,List.length_nil,List.length_replicate];omega) (by decide) (by decide) (by decide) (by decide) (by decide) (by decide) rfl rfl (by simp;omega) (by omega)
 case w16d =>
  intro a b k l r h1 h2 h;have he:effE c 16 a b=([3],[1]):=by show callE a=_;unfold callE;rw[if_neg (by omega),if_neg (by omega),if_neg (by omega)]
  exact pp 16 a b k l [3] [1] r (by simp only[List.length_cons,List.length_nil,List.length_replicate];omega) (by decide) (by decide) (by decide) (by decide) (by decide) (by decide) he rfl (by simp;omega) (by omega)
 case w17 =>
  intro a b k l r h;have hp:passF c 17 a b (l,r)=.inr (l,r):=by
   have:=pass_pop (c:=c) (o:=17) (a:=a) (b:=b) l [] [] r rfl rfl (by simp;omega)
   rw[e0] at this;exact this
  unfold scV
  dsimp only
  rw[if_neg (by decide),if_neg (by omega),hp];simp[leadF,ledTo,show l.length<1024 by omega]
 case w18=>intro a b k l r h;exact pp 18 a b k l [kdC c a] [kdC c a] r (by simp only[List.length_cons,List.length_nil,List.length_replicate];omega) (by decide) (by decide) (by decide) (by decide) (by decide) (by decide) rfl rfl (by simpa using h) (by omega)
 case w19=>intro a b k l r h;have:=pp 19 a b k l [] [] r (by simp only[List.length_cons,List.length_nil,List.length_replicate];omega) (by decide) (by decide) (by decide) (by decide) (by decide) (by decide) rfl rfl (by simpa using h) (by omega);rwa [e0] at this
 case w20 =>
  intro o a b k l r h1 h h2;have he:effE c o a b=([],[]):=by rcases h1 with rfl|rfl<;>rfl
  have hf:fitE o a r=true:=by rcases h1 with rfl|rfl<;>simp[fitE]<;>omega
  have:=pp o a b k l [] [] r (by simp only[List.length_cons,List.length_nil,List.length_replicate];omega) (by omega) (by omega) (by omega) (by omega) (by omega) (by omega) he hf (by simpa using h) (fun _ _=>h2)
  rw[e0] at this
  rwa [show opnE o r=r+1 by unfold opnE;rw[if_pos (by omega)]] at this
 case w22 =>
  intro a b k l r h h2
  have:=pp 22 a b k l [3] [] r (by simp only[List.length_cons,List.length_nil,List.length_replicate];omega) (by decide) (by decide) (by decide) (by decide) (by decide) (by decide) rfl (by simp[fitE];omega) (by simp;omega) (fun _ _=>h2)
  rwa [e0] at this
 case w23 =>
  intro a b k l r h h2
  have:=pp 23 a b k l (List.replicate a 3) [] r (by simp only[List.length_cons,List.length_nil,List.length_replicate];omega) (by decide) (by decide) (by decide) (by decide) (by decide) (by decide) rfl (by simp[fitE];omega) (by simp;omega) (fun _ _=>h2)
  rwa [e0] at this
 case w24 =>
  intro a b k l r h h2;have hp:passF c 24 a b (l,r)=.inr (l,r):=by
   have:=pass_pop (c:=c) (o:=24) (a:=a) (b:=b) l [] [] r rfl (by simp[fitE];omega) (by simpa using h)
   rw[e0] at this;exact this
  unfold scV
  dsimp only
  rw[if_neg (by decide),if_neg (by omega),hp];simp[leadF,ledTo]
 case w25 =>
  intro a b k l r h h2
  have:=pp 25 a b k l [] [] r (by simp only[List.length_cons,List.length_nil,List.length_replicate];omega) (by decide) (by decide) (by decide) (by decide) (by decide) (by decide) rfl (by simp[fitE];omega) (by simpa using h) (by omega)
  rwa [e0] at this
 case w26=>intro a b k l r h;exact pp 26 a b k l [1,2,1] [1,2] r (by simp only[List.length_cons,List.length_nil,List.length_replicate];omega) (by decide) (by decide) (by decide) (by decide) (by decide) (by decide) rfl rfl (by simp;omega) (by omega)
 case w27=>intro a b k l r h;have:=pp 27 a b k l [2] [] r (by simp only[List.length_cons,List.length_nil,List.length_replicate];omega) (by decide) (by decide) (by decide) (by decide) (by decide) (by decide) rfl rfl (by simp;omega) (by omega);rwa [e0] at this
abbrev rgQ (n:Int):Prop:=-9223372036854775808<=n/\n<=9223372036854775807
def WokQ (nc:Nat)(cs:List Int)(x:Wo):Prop :=
 if x.op=1 then (x.b=1\/x.b=2)/\∃v,cs[x.a]?=some v/\rgQ v/\(x.b=2->v=0\/v=1)
 else if x.op=2 then x.b=0/\∃v,cs[x.a]?=some v/\rgQ v/\0<=v
 else if x.op=3 then x.a<=3/\x.b=0
 else if x.op=11 then x.a=0/\1<=x.b/\x.b<=3
 else if x.op=12 then x.a=0/\x.b<=1
 else if x.op=13\/x.op=14\/x.op=15\/x.op=24\/x.op=21\/x.op=23 then x.b=0
 else if x.op=16 then 1<=x.a/\x.a<=10/\x.b=0
 else if x.op=17 then x.a<nc
 else if x.op=18\/x.op=19 then x.a<nc/\x.b=0
 else if x.op=26 then x.a<=1/\x.b=0
 else x.op<28/\x.a=0/\x.b=0
theorem WokQ.up {nc:Nat}{cs cs':List Int}{x:Wo}(h:WokQ nc cs x)(k:∀ (i:Nat) v,cs[i]?=some v->cs'[i]?=some v):WokQ nc cs' x:=by
 unfold WokQ at h ⊢;by_cases e1:x.op=1
 ·rw[if_pos e1] at h ⊢;exact⟨h.1,h.2.imp fun v hv=>⟨k _ _ hv.1,hv.2⟩⟩
 ·rw[if_neg e1] at h ⊢;by_cases e2:x.op=2
  ·rw[if_pos e2] at h ⊢;exact⟨h.1,h.2.imp fun v hv=>⟨k _ _ hv.1,hv.2⟩⟩
  ·rw[if_neg e2] at h ⊢;exact h
abbrev WokS (nc:Nat)(s:Em):Prop:=s.ks.length=nc/\∀ x ∈ s.ws,WokQ nc s.cs x
abbrev Gk (nc:Nat)(f:Em->Em):Prop:=Gd f/\∀ s,Inv s->WokS nc s->WokS nc (f s)
theorem Gk.comp {nc:Nat}{f g:Em->Em}(hf:Gk nc f)(hg:Gk nc g):Gk nc (fun s=>g (f s)):=⟨hf.1.comp hg.1,fun s a b=>hg.2 _ (hf.1 s a).1 (hf.2 s a b)⟩
theorem Gk.id (nc:Nat):Gk nc (fun s=>s):=⟨Gd.id,fun _ _ h=>h⟩
theorem wok_word {nc:Nat}{s:Em}(h:WokS nc s){x:Wo}{cs:List Int}{ns:List (List UInt8)}{d:Nat}(k:∀ (i:Nat) v,s.cs[i]?=some v->cs[i]?=some v)(hx:WokQ nc cs x):WokS nc ⟨s.ws++[x],cs,ns,s.ks,d⟩ :=
 ⟨h.1,fun y hy=>by
  rcases List.mem_append.1 hy with hy|hy
  ·exact(h.2 y hy).up k
  ·rw[List.mem_singleton.1 hy];exact hx⟩
theorem gk_lay {nc:Nat}(op a b:Nat)(h1:op≠1)(h2:op≠2)(h3:op≠21)(h:∀ cs,WokQ nc cs ⟨op,a,b⟩):Gk nc (fun s=>s.lay op a b):=⟨gd_lay op a b h1 h2 h3,fun s _ w=>wok_word w (fun _ _ h=>h) (h s.cs)⟩
theorem kc_upK (s:Em)(n:Int)(i:Nat)(v:Int)(h:s.cs[i]?=some v):(s.kc n).cs[i]?=some v:=by
 simp only[Em.kc];split
 ·exact h
 ·exact(List.getElem?_append_left (List.getElem?_eq_some_iff.1 h).1).trans h
theorem kc_atK (s:Em)(n:Int):(s.kc n).cs[s.cs.idxOf n]?=some n:=by
 simp only[Em.kc];split
 ·rename_i h
  have hl:=List.idxOf_lt_length_of_mem h;rw[List.getElem?_eq_getElem hl,List.getElem_idxOf hl]
 ·rename_i h
  rw[List.idxOf_eq_length h];simp
theorem gk_con (nc:Nat)(n:Int)(kd u:Nat)(h:kd=1\/(kd=2/\(n=0\/n=1)))(hr:rgQ n):Gk nc (fun s=>s.con n kd u):=⟨gd_con n kd u,fun s _ w=>wok_word w (kc_upK s n) (by
 unfold WokQ;rw[if_pos rfl];exact⟨h.imp id (fun h=>h.1),n,kc_atK s n,hr,fun e=>h.elim (fun h=>absurd (h.symm.trans e) (by decide)) (fun h=>h.2)⟩)⟩
theorem gk_vtx (nc:Nat)(n:Int)(u:Nat)(h:0<=n)(hr:rgQ n):Gk nc (fun s=>(s.kc n).push 2 (s.cs.idxOf n) 0 u):=⟨gd_vtx n u,fun s _ w=>wok_word w (kc_upK s n) (by
 unfold WokQ;rw[if_neg (show ¬(2:Nat)=1 by decide),if_pos rfl];exact⟨rfl,n,kc_atK s n,hr,h⟩)⟩
theorem gk_nam (nc:Nat)(x:List UInt8):Gk nc (fun s=>(s.kn x).lay 21 (s.ns.idxOf x) 0):=⟨gd_nam x,fun s _ w=>wok_word w (fun _ _ h=>h) rfl⟩
theorem gk_var (nc a u:Nat)(h:a<=3):Gk nc (fun s=>s.push 3 a 0 u):=⟨gd_var a u,fun s _ w=>wok_word w (fun _ _ h=>h) ⟨h,rfl⟩⟩
theorem wok_land {nc:Nat}{s:Em}(h:WokS nc s){i:Nat}{x:Wo}(hx:s.ws[i]?=some x)(ho:x.op=13\/x.op=14\/x.op=15\/x.op=24\/x.op=17):WokS nc (s.land i):=⟨h.1,fun y hy=>by
 obtain⟨j,hj⟩:=List.mem_iff_getElem?.1 hy;rw[land_at] at hj;by_cases e:i=j
 ·subst e;rw[if_pos rfl,hx] at hj;simp only[Option.map_some,Option.some.injEq] at hj;subst hj;have hq:=h.2 x (List.mem_of_getElem? hx);obtain⟨op,a,b⟩:=x;rcases ho with rfl|rfl|rfl|rfl|rfl<;>exact hq
 ·rw[if_neg e] at hj;exact h.2 y (List.mem_of_getElem? hj)⟩
theorem gk_fork {nc:Nat}{f g:Em->Em}(op:Nat)(hf:Gk nc f)(hg:Gk nc g)(ho:op=14\/op=15\/op=24):Gk nc (fun s=>s.fork op f g):=⟨gd_fork op hf.1 hg.1 (by omega) (by omega) (by omega),fun s h w=>by
 have n1:op≠1:=by omega
 have n2:op≠2:=by omega
 have n3:op≠21:=by omega
 have L1:=gk_lay (nc:=nc) op 0 0 n1 n2 n3 (fun cs=>by rcases ho with rfl|rfl|rfl<;>rfl);have L3:=gk_lay (nc:=nc) 13 0 0 (by decide) (by decide) (by decide) (fun cs=>rfl);obtain⟨i1,p1⟩:=L1.1 s h;obtain⟨i2,p2⟩:=hf.1 _ i1;obtain⟨i3,p3⟩:=L3.1 _ i2;have w3:=L3.2 _ i2 (hf.2 _ i1 (L1.2 s h w))
 dsimp only at i1 p1 i2 p2 i3 p3 w3
 have hl1:(s.lay op 0 0).ws.length=s.ws.length+1:=by simp[Em.lay]
 have hw1:((f (s.lay op 0 0)).lay 13 0 0).ws[s.ws.length]?=some ⟨op,0,0⟩:=((p2.trans p3).at1 s.ws.length (by omega)).trans (lay_last s op 0 0);have i4:=inv_land i3 hw1 n1 n2 n3;have w4:=wok_land w3 hw1 (by rcases ho with e|e|e<;>simp[e]);obtain⟨i5,p5⟩:=hg.1 _ i4;have hl2:=p2.len;have hl3:(((f (s.lay op 0 0)).lay 13 0 0).land s.ws.length).ws.length=(f (s.lay op 0 0)).ws.length+1:=by rw[land_len];simp[Em.lay]
 have hw2:(((f (s.lay op 0 0)).lay 13 0 0).land s.ws.length).ws[(f (s.lay op 0 0)).ws.length]?=some ⟨13,0,0⟩:=by
  rw[land_at,if_neg (by omega)];exact lay_last _ 13 0 0
 exact wok_land (hg.2 _ i4 w4) ((p5.at1 (f (s.lay op 0 0)).ws.length (by omega)).trans hw2) (.inl rfl)⟩
theorem gk_clrs (nc h:Nat):∀ (l:List Int) (i:Nat),i+l.length<=nc->Gk nc (clrs h l i)
 | [],_,_=>Gk.id nc
 | x::r,i,hl=>by
  have hl:i+(r.length+1)<=nc:=hl;have h1:=gk_clrs nc h r (i+1) (by omega);refine⟨gd_clrs h (x::r) i,fun s a w=>?_⟩;unfold clrs;have L:=gk_lay (nc:=nc) 19 i 0 (by decide) (by decide) (by decide) (fun cs=>⟨show i<nc by omega,rfl⟩);by_cases e:x=(h:Int)
  ·rw[if_pos e];exact h1.2 _ (L.1 s a).1 (L.2 s a w)
  ·rw[if_neg e];exact h1.2 s a w
theorem gk_bdy (lv:List Int){t:Tr}(ht:∀ ar u,Gk lv.length (t ar u))(ar u:Nat):Gk lv.length (bdy lv t ar u):=(gk_clrs lv.length (ar+1) lv 0 (by omega)).comp (ht (ar+1) u)
theorem gk_srch (lv:List Int){t:Tr}(ht:∀ ar u,Gk lv.length (t ar u))(op:Nat)(v:Int)(ho:op=14\/op=15)(hv:v=0\/v=1)(ar u:Nat):Gk lv.length (srch lv t op v ar u) :=
 ⟨gd_srch lv (fun ar u=>(ht ar u).1) op v (by omega) (by omega) (by omega) ar u,fun s hs w =>
 (gk_fork 24 ((((gk_bdy lv ht ar u).comp (gk_lay op s.ws.length 0 (by omega) (by omega) (by omega) (fun cs=>by rcases ho with rfl|rfl<;>rfl))).comp (gk_lay 25 0 0 (by decide) (by decide) (by decide) (fun cs=>⟨by decide,rfl,rfl⟩))).comp (gk_con lv.length v 2 u (.inr ⟨rfl,hv⟩) (by omega))) (gk_con lv.length (1-v) 2 u (.inr ⟨rfl,by omega⟩) (by omega)) (by omega)).2 s hs w⟩
theorem gk_gath (lv:List Int){t:Tr}(ht:∀ ar u,Gk lv.length (t ar u)){f:Nat->Em->Em}(hf:∀ g,Gk lv.length (f g))(ar u:Nat):Gk lv.length (gath lv t f ar u):=⟨gd_gath lv (fun ar u=>(ht ar u).1) (fun g=>(hf g).1) ar u,fun s h w=>by
 have L:=gk_lay (nc:=lv.length) 24 0 0 (by decide) (by decide) (by decide) (fun cs=>rfl);have M:=((gk_bdy lv ht ar u).comp (hf s.ws.length)).comp (gk_lay 13 s.ws.length 0 (by decide) (by decide) (by decide) (fun cs=>rfl));obtain⟨i1,p1⟩:=L.1 s h;obtain⟨i2,p2⟩:=M.1 _ i1;have w2:=M.2 _ i1 (L.2 s h w)
 dsimp only at i1 p1 i2 p2 w2
 have hl1:(s.lay 24 0 0).ws.length=s.ws.length+1:=by simp[Em.lay]
 have hw:=(p2.at1 s.ws.length (by omega)).trans (lay_last s 24 0 0);exact wok_land w2 hw (by decide)⟩
theorem gk_qua (lv:List Int)(n:Int)(hn:n<=6){a t:Tr}(ha:∀ ar u,Gk lv.length (a ar u))(ht:∀ ar u,Gk lv.length (t ar u))(ar u:Nat):Gk lv.length (qua lv n a t ar u):=⟨gd_qua lv n (fun ar u=>(ha ar u).1) (fun ar u=>(ht ar u).1) ar u,fun s hs w=>by
 have c0:=fun u=>gk_con lv.length 0 1 u (.inl rfl) (by decide);have c1:=fun u=>gk_con lv.length 1 1 u (.inl rfl) (by decide);have c2:=fun u=>gk_con lv.length 0 2 u (.inr ⟨rfl,.inl rfl⟩) (by decide);have b6:=gk_lay (nc:=lv.length) 6 0 0 (by decide) (by decide) (by decide) (fun cs=>⟨by decide,rfl,rfl⟩);have b27:=gk_lay (nc:=lv.length) 27 0 0 (by decide) (by decide) (by decide) (fun cs=>⟨by decide,rfl,rfl⟩);have b26:=gk_lay (nc:=lv.length) 26 (n-5).toNat 0 (by decide) (by decide) (by decide) (fun cs=>⟨show (n-5).toNat<=1 by omega,rfl⟩);have b14:=fun g=>gk_lay (nc:=lv.length) 14 g 0 (by decide) (by decide) (by decide) (fun cs=>rfl);unfold qua;split
 ·exact((ha ar u).comp (gk_srch lv ht 15 0 (by omega) (by omega) ar u)).2 s hs w
 ·split
  ·exact((ha ar u).comp (gk_srch lv ht 14 1 (by omega) (by omega) ar u)).2 s hs w
  ·split
   ·exact(((ha ar u).comp (c0 u)).comp (gk_gath lv ht (fun g=>((b14 g).comp (c1 (u+1))).comp b6) ar (u+1))).2 s hs w
   ·split
    ·exact(((ha ar u).comp (c0 u)).comp (gk_gath lv ht (fun g=>b6) ar (u+1))).2 s hs w
    ·exact(((((ha ar u).comp (c0 u)).comp (c2 (u+1))).comp (gk_gath lv ht (fun g=>b26) ar (u+2))).comp b27).2 s hs w⟩
theorem gk_seq {nc:Nat}:∀ (T:List Tr) (i ar u:Nat),(∀ t ∈ T,∀ ar u,Gk nc (t ar u))->Gk nc (seqT T i ar u)
 | [],_,_,_,_=>Gk.id nc
 | t::r,i,ar,u,h=>(h t (List.mem_cons_self ..) ar (u+i)).comp (gk_seq r (i+1) ar u (fun x hx=>h x (List.mem_cons_of_mem _ hx)))
theorem bar_wq (nc:Nat)(cs:List Int)(k:Int):WokQ nc cs ⟨barN k,0,0⟩:=by
 unfold barN
 repeat' split
 all_goals exact⟨by decide,rfl,rfl⟩
theorem gk_opr {nc:Nat}(k n:Int)(nm:List UInt8)(kk:List Int)(h1:k=13\/k=14->1<=kk.getD 0 0/\kk.getD 0 0<=3)(h2:k=20->1<=n/\n<=10):Gk nc (opr k n nm kk):=⟨gd_opr k n nm kk,fun s hs w=>by
 unfold opr;have b5:=gk_lay (nc:=nc) 5 0 0 (by decide) (by decide) (by decide) (fun cs=>⟨by decide,rfl,rfl⟩);have b11:1<=kk.getD 0 0/\kk.getD 0 0<=3->Gk nc (fun s=>s.lay 11 0 (kk.getD 0 0).toNat):=fun h=>gk_lay (nc:=nc) 11 0 (kk.getD 0 0).toNat (by decide) (by decide) (by decide) (fun cs=>⟨rfl,show 1<=(kk.getD 0 0).toNat by omega,show (kk.getD 0 0).toNat<=3 by omega⟩);split
 ·rename_i e;exact(b11 (h1 (.inl e))).2 s hs w
 ·split
  ·rename_i e;exact((b11 (h1 (.inr e))).comp b5).2 s hs w
  ·split
   ·exact(gk_lay (nc:=nc) 12 0 0 (by decide) (by decide) (by decide) (fun cs=>⟨rfl,by decide⟩)).2 s hs w
   ·split
    ·exact(gk_lay (nc:=nc) 12 0 1 (by decide) (by decide) (by decide) (fun cs=>⟨rfl,by decide⟩)).2 s hs w
    ·split
     ·rename_i e
      have:=h2 e
      exact(gk_lay (nc:=nc) 16 n.toNat 0 (by decide) (by decide) (by decide) (fun cs=>⟨show 1<=n.toNat by omega,show n.toNat<=10 by omega,rfl⟩)).2 s hs w
     ·split
      ·exact(gk_nam nc nm).2 s hs w
      ·split
       ·exact(gk_lay (nc:=nc) 23 _ 0 (by decide) (by decide) (by decide) (fun cs=>rfl)).2 s hs w
       ·exact(gk_lay (nc:=nc) _ 0 0 (bar_ne k).1 (bar_ne k).2.1 (bar_ne k).2.2 (fun cs=>bar_wq nc cs k)).2 s hs w⟩
theorem gk_get {nc:Nat}{T:List Tr}(h:∀ t ∈ T,∀ ar u,Gk nc (t ar u))(i ar u:Nat):Gk nc (T.getD i noT ar u):=by
 by_cases hi:i<T.length
 ·rw[List.getD_eq_getElem?_getD,List.getElem?_eq_getElem hi];exact h _ (List.getElem_mem hi) ar u
 ·rw[List.getD_eq_getElem?_getD,List.getElem?_eq_none (by omega)];exact Gk.id nc
theorem gk_prt (lv:List Int)(k n:Int)(nm:List UInt8)(kk:List Int)(len:Nat){T:List Tr}(ho:okN lv.length k n nm len)(h:∀ t ∈ T,∀ ar u,Gk lv.length (t ar u))(hk:k=13\/k=14->1<=kk.getD 0 0/\kk.getD 0 0<=3)(ar u:Nat):Gk lv.length (prt lv k n nm kk T ar u):=⟨gd_prt lv k n nm kk (fun t ht ar u=>(h t ht ar u).1) ar u,fun s hs w=>by
 obtain⟨hd,o5,o26,orr⟩:=ho;unfold prt;split
 ·exact(gk_con _ n 1 u (.inl rfl) orr).2 s hs w
 split
 ·rename_i e
  exact(gk_con _ n 2 u (.inr ⟨rfl,by subst e;simp[docF] at hd;omega⟩) orr).2 s hs w
 split
 ·rename_i e
  exact(gk_vtx _ n u (by subst e;simp[docF] at hd;omega) orr).2 s hs w
 split
 ·rename_i e
  exact(gk_var _ n.toNat u (by have:=o5 e;omega)).2 s hs w
 split
 ·exact((gk_get h 0 ar u).comp (gk_fork 14 (gk_get h 1 ar u) (gk_con _ 0 2 u (.inr ⟨rfl,.inl rfl⟩) (by decide)) (by omega))).2 s hs w
 split
 ·exact((gk_get h 0 ar u).comp (gk_fork 15 (gk_get h 1 ar u) (gk_con _ 1 2 u (.inr ⟨rfl,.inr rfl⟩) (by decide)) (by omega))).2 s hs w
 split
 ·exact((gk_get h 0 ar u).comp (gk_fork 14 (gk_get h 1 ar u) (gk_get h 2 ar u) (by omega))).2 s hs w
 split
 ·rename_i e
  have hnc:=o26 e;have hs1:Inv (s.cel n.toNat (kk.getD 0 0)):=⟨hs.nc,hs.nn,hs.wc,hs.wn,hs.uc,hs.un⟩
  have w1:WokS lv.length (s.cel n.toNat (kk.getD 0 0)):=⟨by simpa [Em.cel] using w.1,w.2⟩
  have L:=gk_lay (nc:=lv.length) 17 n.toNat 0 (by decide) (by decide) (by decide) (fun cs=>show n.toNat<lv.length by omega);have M:=(gk_get h 0 ar u).comp (gk_lay (nc:=lv.length) 18 n.toNat 0 (by decide) (by decide) (by decide) (fun cs=>⟨show n.toNat<lv.length by omega,rfl⟩));obtain⟨i1,p1⟩:=L.1 _ hs1;obtain⟨i2,p2⟩:=M.1 _ i1;have w2:=M.2 _ i1 (L.2 _ hs1 w1)
  dsimp only at i1 p1 i2 p2 w2
  have hl1:((s.cel n.toNat (kk.getD 0 0)).lay 17 n.toNat 0).ws.length=s.ws.length+1:=by simp[Em.lay,Em.cel]
  have hw:=(p2.at1 s.ws.length (by omega)).trans (lay_last (s.cel n.toNat (kk.getD 0 0)) 17 n.toNat 0);exact wok_land w2 hw (.inr (.inr (.inr (.inr rfl))))
 split
 ·rename_i e
  exact(gk_qua lv n ((doc_lenq hd).2.2.2.2.1 e).2.2 (fun ar u=>gk_get h 0 ar u) (fun ar u=>gk_get h 1 ar u) ar u).2 s hs w
 ·exact((gk_seq T 0 ar u h).comp (gk_opr k n nm kk hk (fun e=>by subst e;simp[docF] at hd;omega))).2 s hs w⟩
theorem gk_emF (lv:List Int):∀ (f:Fs),okF lv.length f->∀ t ∈ emF lv f,∀ ar u,Gk lv.length (t ar u)
 | ⟨none⟩,_=>fun t ht=>by simp[emF] at ht
 | ⟨some ⟨k,n,nm,a,ks,r⟩⟩,ho=>fun t ht ar u=>by
  rcases List.mem_cons.1 (show t ∈ prt lv k n nm (kdF ks) (emF lv ks)::emF lv r from ht) with rfl|ht
  ·refine gk_prt lv k n nm (kdF ks) ks.len ho.1 (gk_emF lv ks ho.2.1) (fun e=>?_) ar u;have hl:ks.len=2:=(doc_lenq ho.1.1).2.1 (by omega) (by omega);have h2:=kdF_bd ho.2.1;have h3:=kdF_lenq ks;obtain⟨x,y,hx⟩:∃x y,kdF ks=[x,y]:=by
    match kdF ks,h3.trans hl with
    | [x,y],_=>exact⟨x,y,rfl⟩
   rw[hx] at h2 ⊢;exact h2 x (by simp)
  ·exact gk_emF lv r ho.2.2 t ht ar u
theorem wok_A (lv:List Int)(e:Ex)(ho:okE lv.length e):Inv (emA lv e)/\WokS lv.length (emA lv e):=by
 have h0:Inv (em0 lv):=⟨List.nodup_nil,List.nodup_nil,fun x hx=>by simp[em0] at hx,fun x hx=>by simp[em0] at hx,fun i hi=>by simp[em0] at hi,fun i hi=>by simp[em0] at hi⟩
 have w0:WokS lv.length (em0 lv):=⟨by simp[em0],fun x hx=>by simp[em0] at hx⟩
 have G:=gk_emF lv (one e) ⟨ho.1,ho.2,trivial⟩ (emE lv e) (List.mem_singleton.2 rfl) 0 0;have L:=G.comp (gk_lay (nc:=lv.length) 0 0 0 (by decide) (by decide) (by decide) (fun cs=>⟨by decide,rfl,rfl⟩));exact⟨(L.1 _ h0).1,L.2 _ h0 w0⟩
structure Cn (m:Nat)(a b:List (List UInt8)):Prop where
 len:b.length<=a.length+m
 nam:∀ x ∈ b,x ∈ a\/nameB x=true
theorem Cn.refl (a:List (List UInt8)):Cn 0 a a:=⟨Nat.le_refl _,fun _ h=>.inl h⟩
theorem Cn.trans {m n:Nat}{a b c:List (List UInt8)}(h:Cn m a b)(k:Cn n b c):Cn (m+n) a c:=⟨by have:=h.len;have:=k.len;omega,fun x hx=>(k.nam x hx).elim (h.nam x) .inr⟩
theorem Cn.le {m n:Nat}{a b:List (List UInt8)}(h:Cn m a b)(k:m<=n):Cn n a b:=⟨by have:=h.len;omega,h.nam⟩
abbrev Tn (m:Nat)(t:Tr):Prop:=∀ ar u s,Cn m s.ns (t ar u s).ns
theorem clrs_nsq (h:Nat):∀ (lv:List Int) (i:Nat) (s:Em),(clrs h lv i s).ns=s.ns
 | [],_,_=>rfl
 | l::r,i,s=>by
  unfold clrs;rw[clrs_nsq h r];split<;>rfl
theorem cn_bdy {m:Nat}(lv:List Int){t:Tr}(h:Tn m t):Tn m (bdy lv t):=fun ar u s=>by
 have:=h (ar+1) u (clrs (ar+1) lv 0 s)
 rw[clrs_nsq] at this;exact this
theorem cn_fork {m n:Nat}{f g:Em->Em}(hf:∀ s:Em,Cn m s.ns (f s).ns)(hg:∀ s:Em,Cn n s.ns (g s).ns)(op:Nat)(s:Em):Cn (m+n) s.ns (s.fork op f g).ns:=(hf (s.lay op 0 0)).trans (hg (((f (s.lay op 0 0)).lay 13 0 0).land s.ws.length))
theorem cn_srch {m:Nat}(lv:List Int){t:Tr}(h:Tn m t)(op:Nat)(v:Int):Tn m (srch lv t op v):=fun ar u s =>
 cn_fork (n:=0) (f:=fun x=>(((bdy lv t ar u x).lay op s.ws.length 0).lay 25 0 0).con v 2 u) (g:=fun x=>x.con (1-v) 2 u) (fun x=>cn_bdy lv h ar u x) (fun x=>Cn.refl x.ns) 24 s
theorem cn_gath {m:Nat}(lv:List Int){t:Tr}(h:Tn m t)(f:Nat->Em->Em)(hf:∀ g s,(f g s).ns=s.ns):Tn m (gath lv t f):=fun ar u s=>by
 have:=cn_bdy lv h ar u (s.lay 24 0 0)
 show Cn m s.ns (f s.ws.length (bdy lv t ar u (s.lay 24 0 0))).ns;rw[hf];exact this
theorem cn_qua {m m':Nat}(lv:List Int)(n:Int){a t:Tr}(h:Tn m a)(k:Tn m' t):Tn (m+m') (qua lv n a t):=fun ar u s=>by
 unfold qua;split
 ·exact(h ar u s).trans (cn_srch lv k 15 0 ar u _)
 split
 ·exact(h ar u s).trans (cn_srch lv k 14 1 ar u _)
 split
 ·exact(h ar u s).trans (cn_gath lv k (fun g x=>((x.lay 14 g 0).con 1 1 (u+1)).lay 6 0 0) (fun _ _=>rfl) ar (u+1) ((a ar u s).con 0 1 u))
 split
 ·exact(h ar u s).trans (cn_gath lv k (fun _ x=>x.lay 6 0 0) (fun _ _=>rfl) ar (u+1) ((a ar u s).con 0 1 u))
 ·exact(h ar u s).trans (cn_gath lv k (fun _ x=>x.lay 26 (n-5).toNat 0) (fun _ _=>rfl) ar (u+2) (((a ar u s).con 0 1 u).con 0 2 (u+1)))
def Tns:List Tr->Nat->Prop
 | [],_=>True
 | t::T,m=>∃a b,Tn a t/\Tns T b/\a+b<=m
theorem cn_seq:∀ (T:List Tr) (m j ar u:Nat) (s:Em),Tns T m->Cn m s.ns (seqT T j ar u s).ns
 | [],m,_,_,_,s,_=>(Cn.refl s.ns).le (Nat.zero_le _)
 | t::T,m,j,ar,u,s,⟨a,b,h1,h2,h3⟩=>((h1 ar (u+j) s).trans (cn_seq T b (j+1) ar u (t ar (u+j) s) h2)).le h3
theorem cn_opr (k n:Int)(nm:List UInt8)(kk:List Int)(hn:k=23->nameB nm=true)(s:Em):Cn (if k=23 then 1 else 0) s.ns (opr k n nm kk s).ns:=by
 by_cases e:k=23
 ·subst e
  have:opr 23 n nm kk s=(s.kn nm).lay 21 (s.ns.idxOf nm) 0:=by simp[opr]
  rw[this,if_pos rfl];show Cn 1 s.ns (if nm ∈ s.ns then s.ns else s.ns++[nm]);split
  ·exact(Cn.refl _).le (by omega)
  ·refine⟨by simp,fun x hx=>?_⟩;rcases List.mem_append.1 hx with h|h
   ·exact .inl h
   ·rw[List.mem_singleton.1 h];exact .inr (hn rfl)
 ·have:(opr k n nm kk s).ns=s.ns:=by
   unfold opr
   repeat' split
   all_goals first|rfl|(exfalso;exact e (by assumption))
  rw[this,if_neg e];exact Cn.refl _
theorem cn_prt (lv:List Int)(k n:Int)(nm:List UInt8)(kk:List Int)(T:List Tr)(m len:Nat)(hd:docF k n nm len=true)(hl:T.length=len)(hT:Tns T m)(hn:k=23->nameB nm=true) :
  Tn (m+if k=23 then 1 else 0) (prt lv k n nm kk T):=fun ar u s=>by
 obtain⟨l1,l2,l3,l4,l5,l6,l7,l8⟩:=doc_lenq hd;have z:∀ t:Em,t.ns=s.ns->Cn (m+if k=23 then 1 else 0) s.ns t.ns:=fun t h=>by rw[h];exact(Cn.refl _).le (Nat.zero_le _)
 have le:∀ {a:Nat}{b:List (List UInt8)},Cn a s.ns b->a<=m->Cn (m+if k=23 then 1 else 0) s.ns b:=fun h1 h2=>h1.le (by omega);have two:len=2->∃x y a b,T=[x,y]/\Tn a x/\Tn b y/\a+b<=m:=fun h=>by
  match T,hl.trans h,hT with
  | [x,y],_,⟨a,b,h1,⟨c,d,h2,_,h3⟩,h4⟩=>exact⟨x,y,a,c,rfl,h1,h2,by omega⟩
 unfold prt;by_cases e1:k=1
 ·rw[if_pos e1];exact z _ rfl
 rw[if_neg e1];by_cases e2:k=2
 ·rw[if_pos e2];exact z _ rfl
 rw[if_neg e2];by_cases e3:k=3
 ·rw[if_pos e3];exact z _ rfl
 rw[if_neg e3];by_cases e5:k=5
 ·rw[if_pos e5];exact z _ rfl
 rw[if_neg e5];by_cases e17:k=17
 ·obtain⟨x,y,a,b,rfl,ha,hb,hm⟩:=two (l2 (by omega) (by omega));rw[if_pos e17];exact le ((ha ar u s).trans (cn_fork (n:=0) (f:=y ar u) (g:=fun x=>x.con 0 2 u) (hb ar u) (fun x=>Cn.refl x.ns) 14 (x ar u s))) hm
 rw[if_neg e17];by_cases e18:k=18
 ·obtain⟨x,y,a,b,rfl,ha,hb,hm⟩:=two (l2 (by omega) (by omega));rw[if_pos e18];exact le ((ha ar u s).trans (cn_fork (n:=0) (f:=y ar u) (g:=fun x=>x.con 1 2 u) (hb ar u) (fun x=>Cn.refl x.ns) 15 (x ar u s))) hm
 rw[if_neg e18];by_cases e19:k=19
 ·rw[if_pos e19]
  match T,hl.trans (l3 e19),hT with
  | [x,y,w],_,⟨a,b,h1,⟨c,d,h2,⟨f,g,h3,_,h4⟩,h5⟩,h6⟩ =>
   exact le ((h1 ar u s).trans (cn_fork (f:=y ar u) (g:=w ar u) (h2 ar u) (h3 ar u) 14 (x ar u s))) (by omega)
 rw[if_neg e19];by_cases e26:k=26
 ·rw[if_pos e26]
  match T,hl.trans (l7 e26),hT with
  | [x],_,⟨a,b,h1,_,h2⟩=>exact le (h1 ar u ((s.cel n.toNat (kk.getD 0 0)).lay 17 n.toNat 0)) (by omega)
 rw[if_neg e26];by_cases e21:k=21
 ·obtain⟨x,y,a,b,rfl,ha,hb,hm⟩:=two (l5 e21).1;rw[if_pos e21];exact le (cn_qua lv n ha hb ar u s) hm
 rw[if_neg e21];exact(cn_seq T m 0 ar u s hT).trans (cn_opr k n nm kk hn _)
def nmF:Fs->Nat
 | ⟨none⟩=>0
 | ⟨some ⟨k,_,_,_,ks,r⟩⟩=>(nmF ks+if k=23 then 1 else 0)+nmF r
theorem cn_F (lv:List Int)(nc:Nat):∀ (f:Fs),okF nc f->Tns (emF lv f) (nmF f)
 | ⟨none⟩,_=>trivial
 | ⟨some ⟨k,n,nm,a,ks,r⟩⟩,ho=>⟨_,_,cn_prt lv k n nm (kdF ks) (emF lv ks) _ ks.len ho.1.1 (emF_len lv ks) (cn_F lv nc ks ho.2.1) (fun e=>by
   have:=ho.1.1
   subst e;simp[docF] at this;exact this.2.2),cn_F lv nc r ho.2.2,Nat.le_refl _⟩
def quF:Fs->Nat
 | ⟨none⟩=>0
 | ⟨some ⟨k,_,_,_,ks,r⟩⟩=>(quF ks+if k=21 then 1 else 0)+quF r
def szF:Fs->Nat
 | ⟨none⟩=>0
 | ⟨some ⟨_,_,_,_,ks,r⟩⟩=>(szF ks+1)+szF r
theorem len_z:∀ f:Fs,f.len=0->szF f=0/\quF f=0/\nesF f=0/\nmF f=0
 | ⟨none⟩,_=>⟨rfl,rfl,rfl,rfl⟩
 | ⟨some ⟨k,n,nm,a,ks,r⟩⟩,h=>by simp[Fs.len] at h
theorem nm_qu (K:Nat->Int):∀ (f:Fs) (pk:Int) (i:Nat),skF K f pk i->nmF f<=quF f+(if pk=21/\i=0 then 1 else 0)
 | ⟨none⟩,_,_,_=>Nat.zero_le _
 | ⟨some ⟨k,n,nm,a,ks,r⟩⟩,pk,i,⟨h1,_,h3,h4⟩=>by
  have a1:=nm_qu K ks k 0 h3;have a2:=nm_qu K r pk (i+1) h4;have e2:¬(pk=21/\i+1=0):=fun h=>by omega
  rw[if_neg e2] at a2;simp only[nmF,quF];by_cases e:pk=21/\i=0
  ·have:=h1.2 e
   rw[if_pos e];rw[if_neg (show ¬(k=21/\0=0) by omega)] at a1;rw[if_neg (show ¬k=21 by omega)];split<;>omega
  ·have:¬(22<=k/\k<=25):=fun h=>e (h1.1 h)
   rw[if_neg e,if_neg (show ¬k=23 by omega)];by_cases e21:k=21
   ·rw[if_pos ⟨e21,rfl⟩] at a1;rw[if_pos e21];omega
   ·rw[if_neg (fun h=>e21 h.1)] at a1;rw[if_neg e21];omega
theorem cnt_F (K:Nat->Int)(nc:Nat):∀ (f:Fs) (pk:Int) (i d:Nat),okF nc f->skF K f pk i->nesF f<=d ->
  ∃b,quF f<=d*b/\2*quF f+b+(if pk=21/\i=0/\f.len≠0 then 1 else 0)<=szF f/\((if pk=21/\i=0 then 2 else 1)<=f.len->1<=b)
 | ⟨none⟩,pk,i,d,_,_,_=>⟨0,Nat.zero_le _,by simp[quF,szF,Fs.len],fun h=>by
   have:(if pk=21/\i=0 then 2 else 1)<=0:=h
   split at this<;>omega⟩
 | ⟨some ⟨k,n,nm,a,ks,r⟩⟩,pk,i,d,ho,⟨h1,_,h3,h4⟩,hd=>by
  simp only[nesF] at hd;obtain⟨b1,p1,p2,p3⟩:=cnt_F K nc ks k 0 (d-if k=21 then 1 else 0) ho.2.1 h3 (by omega);obtain⟨b2,q1,q2,q3⟩:=cnt_F K nc r pk (i+1) d ho.2.2 h4 (by omega);have e2:¬(pk=21/\i+1=0):=fun h=>by omega
  rw[if_neg (fun h=>e2 ⟨h.1,h.2.1⟩)] at q2;rw[if_neg e2] at q3;have hlen:Fs.len ⟨some ⟨k,n,nm,a,ks,r⟩⟩=r.len+1:=rfl;generalize Fs.len ⟨some ⟨k,n,nm,a,ks,r⟩⟩=L at hlen ⊢;simp only[quF,szF];have hm:=Nat.mul_add d b1 b2;by_cases e:pk=21/\i=0
  ·have hk:=h1.2 e;have n21:¬k=21:=by omega
   rw[if_neg n21,Nat.sub_zero] at p1;rw[if_neg (fun h=>n21 h.1)] at p2;rw[if_neg n21,if_pos (show pk=21/\i=0/\L≠0 from ⟨e.1,e.2,by omega⟩),if_pos e];exact⟨b1+b2,by omega,by omega,fun h=>by have:=q3 (by omega);omega⟩
  ·rw[if_neg (show ¬(pk=21/\i=0/\L≠0) from fun h=>e ⟨h.1,h.2.1⟩),if_neg e];by_cases e21:k=21
   ·have hl:ks.len=2:=((doc_lenq ho.1.1).2.2.2.2.1 e21).1;rw[if_pos ⟨e21,rfl⟩] at p3;have hb:=p3 (by omega);rw[if_pos e21] at p1 hd ⊢;rw[if_pos ⟨e21,rfl,by omega⟩] at p2;have hs:(d-1)*b1+b1=d*b1:=by
     obtain⟨c,rfl⟩:∃c,d=c+1:=⟨d-1,by omega⟩
     rw[Nat.add_sub_cancel,Nat.succ_mul]
    exact⟨b1+b2,by omega,by omega,fun _=>by omega⟩
   ·rw[if_neg e21,Nat.sub_zero] at p1;rw[if_neg (fun h=>e21 h.1)] at p2 p3;rw[if_neg e21];by_cases hz:ks.len=0
    ·obtain⟨z1,z2,-,-⟩:=len_z ks hz;have hm1:=Nat.mul_add d 1 b2;exact⟨1+b2,by omega,by omega,fun _=>by omega⟩
    ·have:=p3 (by omega)
     exact⟨b1+b2,by omega,by omega,fun _=>by omega⟩
theorem keepP_fst {cells:List Int}{n:Int}{ks:Fs}{ar:Nat}{s s':Rg}(h:keepP cells n ks ar s=some s'):s'.1=s.1:=by
 unfold keepP at h;split at h
 ·cases h
 ·split at h
  ·cases h
  ·split at h
   ·injection h with h;subst h;rfl
   ·split at h
    ·injection h with h;subst h;rfl
    ·cases h
theorem rg_cnt (cells:List Int)(nc:Nat):∀ (f:Fs) (pk:Int) (i ar wi:Nat) (s s':Rg) (kd:List Int),okF nc f->rgF cells f pk i ar wi s=some (s',kd) ->
  s'.1=s.1+szF f/\(s.1<=4096->s'.1<=4096)/\(f.len≠0->wi+(if pk=21 then 1 else 0)+nesF f<=4)
 | ⟨none⟩,pk,i,ar,wi,s,s',kd,_,h=>by
  simp only[rgF] at h;injection h with h
  injection h with h1 h2
  subst h1;exact⟨rfl,id,fun h=>absurd rfl h⟩
 | ⟨some ⟨k,n,nm,a,ks,r⟩⟩,pk,i,ar,wi,s,s',kd,ho,h=>by
  obtain⟨s2,k2,rest,hx,hr,rfl⟩:=rg_kids _ pk i ar wi s s' kd h ⟨k,n,nm,a,ks⟩ r rfl;obtain⟨hg,s1,kd1,hk,hl,h0,h1,h2,h3⟩:=rgE_inv hx;simp only at hk hl h0 h1 h2 h3;obtain⟨a1,a2,a3⟩:=rg_cnt cells nc ks k 0 _ _ _ _ _ ho.2.1 hk;obtain⟨b1,b2,b3⟩:=rg_cnt cells nc r pk (i+1) ar wi _ _ _ ho.2.2 hr;have e1:s2.1=s1.1:=by
   split at h3
   ·exact keepP_fst h3
   ·injection h3 with h3;rw[h3]
  unfold gdE at hg;simp only[not_or] at hg;obtain⟨y1,y2,-,-⟩:=hg;have hsp:(spotP pk i ar wi).2=wi+(if pk=21 then 1 else 0):=by
   unfold spotP;split<;>rfl
  simp only at a1 a2;refine⟨by simp only[szF];omega,fun _=>by have:=a2 (by omega);exact b2 (by omega),fun _=>?_⟩;simp only[nesF];have hr4:wi+(if pk=21 then 1 else 0)+nesF r<=4:=by
   by_cases hz:r.len=0
   ·rw[(len_z r hz).2.2.1];omega
   ·exact b3 hz
  have hk4:wi+(if pk=21 then 1 else 0)+(nesF ks+if k=21 then 1 else 0)<=4:=by
   by_cases hz:ks.len=0
   ·rw[(len_z ks hz).2.2.1]
    have:¬k=21:=fun e=>by have:=((doc_lenq ho.1.1).2.2.2.2.1 e).1;omega
    rw[if_neg this];omega
   ·have:=a3 hz
    omega
  omega
theorem nam_A {cells:List Int}{e:Ex}(h:kindP cells e≠0)(ho:okE cells.length e):nesF (one e)<=4/\(emA cells e).ns.length<=2000/\∀ x ∈ (emA cells e).ns,nameB x=true:=by
 have ho':okF cells.length (one e):=⟨ho.1,ho.2,trivial⟩
 obtain⟨h4,s,hs⟩:=kindP_one h;obtain⟨K,-,k1,k2,k3⟩:=sk_of h ho;obtain⟨c1,c2,c3⟩:=rg_cnt cells cells.length (one e) 0 0 0 0 _ _ _ ho' hs;have hn:nesF (one e)<=4:=by simpa using c3 (by simp[one,Fs.len])
 have hsk:skF K (one e) 0 0:=⟨⟨fun h=>absurd h k1,fun h=>absurd h.1 (by decide)⟩,k2,k3,trivial⟩
 have hq:=nm_qu K (one e) 0 0 hsk;obtain⟨b,q1,q2,-⟩:=cnt_F K cells.length (one e) 0 0 4 ho' hsk hn;have hsz:szF (one e)<=4096:=by have:=c2 (by simp);simp at c1;omega
 obtain⟨a,b',t1,-,t3⟩:=cn_F cells cells.length (one e) ho';have T:=t1 0 0 (em0 cells);have hns:(emA cells e).ns=(emE cells e 0 0 (em0 cells)).ns:=rfl;refine⟨hn,?_,fun x hx=>?_⟩
 ·have hl:(emA cells e).ns.length<=0+a:=T.len;simp at hq q2;omega
 ·rcases T.nam x hx with hx|hx
  ·simp[em0] at hx
  ·exact hx
def cdM (s:Em):Cd:=⟨s.ws.map encW,s.cs,s.ns.map (fun x=>⟨x.toArray⟩),s.ks⟩
theorem rg_okx (cells:List Int)(nc:Nat):∀ (f:Fs) (pk:Int) (i ar wi:Nat) (s s':Rg) (kd:List Int),okF nc f->rgF cells f pk i ar wi s=some (s',kd)->(∀ i x,s.2 i=some x->okE nc x)->∀ i x,s'.2 i=some x->okE nc x
 | ⟨none⟩,pk,i,ar,wi,s,s',kd,_,h,hs=>by
  simp only[rgF] at h;injection h with h
  injection h with h1 h2
  subst h1;exact hs
 | ⟨some ⟨k,n,nm,a,ks,r⟩⟩,pk,i,ar,wi,s,s',kd,ho,h,hs=>by
  obtain⟨s2,k2,rest,hx,hr,rfl⟩:=rg_kids _ pk i ar wi s s' kd h ⟨k,n,nm,a,ks⟩ r rfl;obtain⟨hg,s1,kd1,hk,hl,h0,h1,h2,h3⟩:=rgE_inv hx;simp only at hk hl h0 h1 h2 h3;have a1:=rg_okx cells nc ks k 0 _ _ _ _ _ ho.2.1 hk hs;refine rg_okx cells nc r pk (i+1) ar wi _ _ _ ho.2.2 hr (fun j x hj=>?_);by_cases e:k=26
  ·rw[if_pos e] at h3;subst e;rcases keepP_inv h3 with ⟨b1,b2⟩|⟨z,b1,b2,rfl⟩
   ·rw[b2] at hj;simp only at hj;by_cases e:j=n.toNat
    ·rw[if_pos e] at hj;injection hj with hj
     subst hj;exact head_ok (doc26 ho.1.1) ho.2.1
    ·rw[if_neg e] at hj;exact a1 j x hj
   ·exact a1 j x hj
  ·rw[if_neg e] at h3;injection h3 with h3
   subst h3;exact a1 j x hj
theorem ks_A {cells:List Int}{e:Ex}(h:kindP cells e≠0)(ho:okE cells.length e):∀ k ∈ (emA cells e).ks,1<=k/\k<=3:=by
 obtain⟨h4,s,hs⟩:=kindP_one h;have ho':okF cells.length (one e):=⟨ho.1,ho.2,trivial⟩
 have hx:=rg_okx cells cells.length (one e) 0 0 0 0 _ _ _ ho' hs (fun i x q=>by cases q)
 let K:Nat->Int:=fun i=>match s.2 i with|none=>1|some x=>kdE x
 have hK:∀ i x,s.2 i=some x->kdE x=K i:=fun i x q=>by simp only[K];rw[q]
 have hb:∀ i,1<=K i/\K i<=3:=fun i=>by
  simp only[K];cases hi:s.2 i with
  | none=>simp
  | some x=>exact kdE_bd (hx i x hi)
 intro k hk;obtain⟨i,hi⟩:=List.mem_iff_getElem?.1 hk;obtain⟨c,-⟩:=ck_F K i cells cells cells.length (one e) 0 0 0 0 _ _ _ ho' hs hK;have C:=c (emE cells e) (List.mem_singleton.2 rfl) 0 0 (em0 cells);have hks:(emA cells e).ks=(emE cells e 0 0 (em0 cells)).ks:=rfl;rw[hks] at hi;have hl:=(List.getElem?_eq_some_iff.1 hi).1;rw[C.len] at hl;have hg:(emE cells e 0 0 (em0 cells)).ks.getD i 0=k:=by rw[List.getD_eq_getElem?_getD,hi];rfl
 rcases C.or with h|h
 ·rw[hg] at h;simp only[em0,List.length_replicate] at hl;simp[em0,List.getD_eq_getElem?_getD,List.getElem?_replicate,hl] at h;omega
 ·rw[hg] at h;rw[h];exact hb i
theorem nodup_le:∀ {l m:List Nat},l.Nodup->(∀ a ∈ l,a ∈ m)->l.length<=m.length
 | [],_,_,_=>Nat.zero_le _
 | x::l,m,hn,hs=>by
  have hx:=hs x (List.mem_cons_self ..);have h1:=nodup_le (l:=l) (m:=m.erase x) (List.nodup_cons.1 hn).2 (fun a ha=>by
   have hne:a≠x:=fun e=>by subst e;exact(List.nodup_cons.1 hn).1 ha
   exact(List.mem_erase_of_ne hne).2 (hs a (List.mem_cons_of_mem _ ha)))
  have h2:=List.length_erase_of_mem hx;have h3:=List.length_pos_of_mem hx;simp only[List.length_cons];omega
theorem cs_le {s:Em}(h:Inv s):s.cs.length<=s.ws.length:=by
 have hf:∀ n,n<=s.cs.length->∃l:List Wo,l.length=n/\(∀ x ∈ l,x ∈ s.ws)/\l.map (·.a)=List.range n:=by
  intro n hn
  induction n with
  | zero=>exact⟨[],rfl,fun x hx=>by simp at hx,rfl⟩
  | succ n ih =>
   obtain⟨l,h1,h2,h3⟩:=ih (by omega);obtain⟨x,hx,-,ha⟩:=h.uc n (by omega);exact⟨l++[x],by simp[h1],fun y hy=>by
    rcases List.mem_append.1 hy with hy|hy
    ·exact h2 y hy
    ·rw[List.mem_singleton.1 hy];exact hx,by simp[h3,ha,List.range_succ]⟩
 obtain⟨l,h1,h2,h3⟩:=hf _ (Nat.le_refl _)
 have:=nodup_le (l:=l.map (·.a)) (m:=s.ws.map (·.a)) (by rw[h3];exact List.nodup_range) (fun a ha=>by
  obtain⟨x,hx,rfl⟩:=List.mem_map.1 ha;exact List.mem_map.2 ⟨x,h2 x hx,rfl⟩)
 simp only[List.length_map] at this;omega
theorem nameB_g (x:List UInt8):nameBG x=nameB x:=rfl
theorem wrd_A {s:Em}{nc:Nat}(hi:Inv s)(hw:WokS nc s){x:Wo}(hx:x ∈ s.ws)(ho:x.ok)(h23:x.op=23->x.a<=1024):wrdB (cdM s) (encW x)=true:=by
 obtain⟨e1,e2,e3⟩:=encW_parts ho;unfold wrdB opW aW bW;rw[e1,e2,e3];have hq:=hw.2 x hx;have c1:=hi.wc x hx;have c2:=hi.wn x hx;have hk:=hw.1;obtain⟨o,a,b⟩:=x;unfold WokQ at hq;simp only at *;have hcs:∀ v,s.cs[a]?=some v->(cdM s).cs.getD (a:Int).toNat 0=v:=fun v hv=>by
  show s.cs.getD (a:Int).toNat 0=v;rw[Int.toNat_natCast,List.getD_eq_getElem?_getD,hv];rfl
 have hcl:(cdM s).cs.length=s.cs.length:=rfl;have hnl:(cdM s).ns.length=s.ns.length:=by simp[cdM]
 have hkl:(cdM s).ks.length=nc:=hk;have ho28:o<28:=by
  by_cases h:o<28
  ·exact h
  ·exfalso
   repeat rw[if_neg (by omega)] at hq
   exact h hq.1
 by_cases e1:o=1
 ·subst e1;have hc:=c1 (.inl rfl);rw[if_pos rfl] at hq;obtain⟨hb,v,hv,-,hv2⟩:=hq;rcases hb with rfl|rfl
  ·simp[wrdD,within,hcl];omega
  ·simp only[wrdD,within,hcl,hcs v hv];rcases hv2 rfl with rfl|rfl<;>(simp;omega)
 by_cases e2:o=2
 ·subst e2;have hc:=c1 (.inr rfl);rw[if_neg (by decide),if_pos rfl] at hq;obtain⟨rfl,v,hv,-,hv2⟩:=hq;simp only[wrdD,within,hcl,hcs v hv];simp;omega
 rw[if_neg e1,if_neg e2] at hq;clear hcs c1;clear hi hw hk;have hc:o=0\/o=3\/o=4\/o=5\/o=6\/o=7\/o=8\/o=9\/o=10\/o=11\/o=12\/o=13\/o=14\/o=15\/o=16\/o=17\/o=18\/o=19\/o=20\/o=21\/o=22\/o=23\/o=24\/o=25\/o=26\/o=27:=by omega
 clear e1 e2 ho28;rcases hc with rfl|rfl|rfl|rfl|rfl|rfl|rfl|rfl|rfl|rfl|rfl|rfl|rfl|rfl|rfl|rfl|rfl|rfl|rfl|rfl|rfl|rfl|rfl|rfl|rfl|rfl<;>(simp at hq c2 h23;simp[wrdD,within,hkl,hnl];try omega)
end Go.Proofs.YtkhgahljbpmfaaaGreatDoor
