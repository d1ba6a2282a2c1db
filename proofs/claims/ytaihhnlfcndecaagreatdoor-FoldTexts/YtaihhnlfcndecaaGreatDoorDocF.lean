import Derived.Test.YtaihhnlfcndecaaGreatDoorFopA
set_option maxRecDepth 100000
set_option maxHeartbeats 8000000
namespace Go.Proofs.YtaihhnlfcndecaaGreatDoor
open Go.ChangeShapes Go.WideShapes Go.ChangeAt Go.RowKit
set_option linter.unusedVariables false
set_option linter.unusedSimpArgs false
theorem k_facts {k c:Int}(h:k=c):(k==6)=(c==6)/\(k==7)=(c==7)/\(k==8)=(c==8)/\(k==9)=(c==9)/\(k==10)=(c==10)/\(k==11)=(c==11)/\(k==12)=(c==12)/\(k==13)=(c==13)/\(k==14)=(c==14)/\(k==15)=(c==15)/\(k==16)=(c==16)/\(k==17)=(c==17)/\(k==18)=(c==18)/\(k==19)=(c==19)/\(k==21)=(c==21)/\(k==26)=(c==26):=by
 subst h;exact⟨rfl,rfl,rfl,rfl,rfl,rfl,rfl,rfl,rfl,rfl,rfl,rfl,rfl,rfl,rfl,rfl⟩
theorem TyE.in64 {x:Ex}{t:Int}(h:TyE x t)(hc:cnE x=true):In64 x.n:=by
 obtain⟨_,_,_,_,_,h2,h1⟩:=h;rcases (cnE_iff x).1 hc with h|h
 ·exact h1 h
 ·have:=h2 h
  unfold In64;omega
theorem TyE.k77 {x:Ex}{t:Int}(h:TyE x t)(hk:x.k=7):∃z,x.kids=Fs.ex z .nil:=by
 obtain⟨-,y,hy,-⟩:=h.k7 hk;exact⟨y,hy⟩
theorem TyE.shape {e:Ex}{t:Int}(h:TyE e t) :
  ((e.k=6\/e.k=7\/e.k=26)->∃x tx,e.kids=Fs.ex x .nil/\TyE x tx)/\(((8<=e.k/\e.k<=18)\/e.k=21)->∃x y tx ty,e.kids=Fs.ex x (Fs.ex y .nil)/\TyE x tx/\TyE y ty)/\(e.k=19->∃x y z,e.kids=Fs.ex x (Fs.ex y (Fs.ex z .nil))):=by
 obtain⟨kd,hF,hf1,hf2,ht,hb,hn⟩:=h;have one:∀ a b,formP e.k e.n kd=([a],b)->∃x tx,e.kids=Fs.ex x .nil/\TyE x tx:=fun a b hf=>by
  rw[hf] at hf1;rw[<-hf1] at hF;obtain⟨x,h1,h2⟩:=TyF_one hF;exact⟨x,a,h1,h2⟩
 have two:∀ a a' b,formP e.k e.n kd=([a,a'],b)->∃x y tx ty,e.kids=Fs.ex x (Fs.ex y .nil)/\TyE x tx/\TyE y ty:=fun a a' b hf=>by
  rw[hf] at hf1;rw[<-hf1] at hF;obtain⟨x,y,h1,h2,h3⟩:=TyF_two hF;exact⟨x,y,a,a',h1,h2,h3⟩
 refine⟨fun h=>?_,fun h=>?_,fun h=>?_⟩
 ·rcases h with h|h|h
  ·exact one 1 1 (by rw[h];simp[formP])
  ·exact one 2 2 (by rw[h];simp[formP])
  ·exact one (wkP kd 0) (wkP kd 0) (by rw[h];simp[formP])
 ·have hh:(8<=e.k/\e.k<=12)\/(e.k=13\/e.k=14)\/(e.k=15\/e.k=16)\/(e.k=17\/e.k=18)\/e.k=21:=by omega
  rcases hh with h|h|h|h|h
  ·exact two 1 1 1 (by unfold formP;rw[if_neg (by omega),if_neg (by omega),if_neg (by omega),if_neg (by omega),if_neg (by omega),if_pos h])
  ·exact two (wkP kd 0) (wkP kd 0) 2 (by unfold formP;rw[if_neg (by omega),if_neg (by omega),if_neg (by omega),if_neg (by omega),if_neg (by omega),if_neg (by omega),if_neg (by omega),if_neg (by omega),if_pos (by omega)])
  ·exact two 1 1 2 (by unfold formP;rw[if_neg (by omega),if_neg (by omega),if_neg (by omega),if_neg (by omega),if_neg (by omega),if_neg (by omega),if_pos h])
  ·exact two 2 2 2 (by unfold formP;rw[if_neg (by omega),if_neg (by omega),if_neg (by omega),if_neg (by omega),if_neg (by omega),if_neg (by omega),if_neg (by omega),if_pos h])
  ·have hl:kd.length=2:=by
    rw[<-hf1,h];simp only[formP];simp;split
    ·rfl
    ·split<;>rfl
   match kd,hl with
   | [p,q],_ =>
    obtain⟨x,y,h1,h2,h3⟩:=TyF_two hF;exact⟨x,y,p,q,h1,h2,h3⟩
 ·have hf:formP e.k e.n kd=([2,wkP kd 1,wkP kd 1],wkP kd 1):=by rw[h];simp[formP]
  rw[hf] at hf1;rw[<-hf1] at hF;obtain⟨x,y,z,h1,-⟩:=TyF_three hF;exact⟨x,y,z,h1⟩
def PostRv (w:World)(P:Nat->Prop)(y:Ex)(x:Ending)(w':World):Prop:=∃ao cap,x=.returned (exN y ao cap)/\SlcN w' P y.kids ao cap/\Below w.heap.size w w'
theorem ruled_c (e:Ex){t:Int}(hT:TyE e t)(ao:Option Addr)(cap:Nat)(P:Nat->Prop)(w:World)(hP:∀ i,P i->i<w.heap.size)(S:SlcN w P e.kids ao cap) :
  Calls Tryz.prog 75 #[exN e ao cap] w (PostRv w P (rulP e)):=by
 obtain⟨R,hR⟩:∃R,R=rulP e:=⟨_,rfl⟩
 rw[<-hR];have HR:Hid (R=rulP e):=hR;clear hR;obtain⟨w0,hw0⟩:∃w0,w0=(w.alloc (.cells #[.int .i64 e.k,.int .i64 e.n,stv e.nm,.slice ao e.kids.len cap] 34)).alloc (.cells #[.int .i64 0,.int .i64 0,.string ⟨#[]⟩,.slice none 0 0] 34):=⟨_,rfl⟩
 have B0:Below w.heap.size w w0:=by rw[hw0];exact((Below.refl _ w).alloc (Nat.le_refl _) _).alloc (by simp) _
 have E0:w0.heap[w.heap.size]?=some (.cells #[.int .i64 e.k,.int .i64 e.n,stv e.nm,.slice ao e.kids.len cap] 34 (0,0)):=by rw[hw0];exact(Below.heap_alloc _ _ _ (by simp)).trans (heap_alloc_new w _)
 have Z0:w0.heap[w.heap.size+1]?=some (.cells #[.int .i64 0,.int .i64 0,.string ⟨#[]⟩,.slice none 0 0] 34 (0,0)):=by
  rw[hw0]
  have:=heap_alloc_new (w.alloc (.cells #[.int .i64 e.k,.int .i64 e.n,stv e.nm,.slice ao e.kids.len cap] 34)) (.cells #[.int .i64 0,.int .i64 0,.string ⟨#[]⟩,.slice none 0 0] 34)
  simpa using this
 have S0:=S.below B0;have HF:Hid (∀ w1 wz a c,SlcN w0 P R.kids a c->Below w0.heap.size w0 w1->Below w.heap.size w1 wz->PostRv w P R (.returned (exN R a c)) wz):=fun w1 wz a c SR b1 BZ=>by
  refine⟨a,c,rfl,SR.mono (fun i hi hl=>(BZ.block i (hP i hi)).trans (b1.block i hl)) (Nat.le_trans b1.size BZ.size) (fun _ h _=>h),?_⟩;exact(B0.trans (b1.mono B0.size)).trans BZ
 have hsh:=hT.shape;have HT:Hid (TyE e t):=hT;rw[exN_out];go_enter Tryz.func75,Tryz.ntmps75;go_upto_region 1 with fail;rw[<-hw0];obtain⟨bx,hbx⟩:∃bx,bx=w.heap.size:=⟨_,rfl⟩
 rw[<-hbx] at E0 Z0 HF;try rw[<-hbx]
 clear hbx hw0 hT hP B0 S;obtain⟨p0,p1,p2,p3,pf⟩:=box4 E0;have hcs:(6<=e.k/\e.k<=16)\/e.k=17\/e.k=18\/e.k=19\/e.k=21\/e.k=26\/(¬(6<=e.k/\e.k<=16)/\e.k≠17/\e.k≠18/\e.k≠19/\e.k≠21/\e.k≠26):=by omega
 rcases hcs with hk|hk|hk|hk|hk|hk|hk
 focus
  have hc:Calls Tryz.prog 111 #[exN e ao cap] w0 (PostRu w0 w0 P R):=by
   by_cases h67:e.k=6\/e.k=7
   ·obtain⟨x,tx,hx,hTx⟩:=hsh.1 (by omega);have hRx:R=opE e x x:=by rw[HR.out];unfold rulP;rw[if_pos hk,if_pos h67,kid_1 hx]
    rw[hRx];exact operation_c e x x ao cap P w0 hk (.inl ⟨hx,rfl⟩) (fun _ h=>hTx.k77 h) (fun h=>hTx.in64 h) (fun h=>hTx.in64 h) S0
   ·obtain⟨x,y,tx,ty,hx,hTx,hTy⟩:=hsh.2.1 (by omega);have hRx:R=opE e x y:=by rw[HR.out];unfold rulP;rw[if_pos hk,if_neg h67,kid_1 hx,kid_2 hx]
    rw[hRx];exact operation_c e x y ao cap P w0 hk (.inr hx) (fun _ h=>hTx.k77 h) (fun h=>hTx.in64 h) (fun h=>hTy.in64 h) S0
  clear hsh HT S0 HR;have hk2:e.k=6\/e.k=7\/e.k=8\/e.k=9\/e.k=10\/e.k=11\/e.k=12\/e.k=13\/e.k=14\/e.k=15\/e.k=16:=by omega
  clear hk;rcases hk2 with hk|hk|hk|hk|hk|hk|hk|hk|hk|hk|hk
  all_goals (
   obtain⟨t6,t7,t8,t9,t10,t11,t12,t13,t14,t15,t16,t17,t18,t19,t21,t26⟩:=k_facts hk;clear hk;rw[exN_out] at hc;go_wp2_with fail;refine hc.mono ?_;rintro u w1 ⟨a1,c1,rfl,SR,b1⟩;have Z1:=(b1.block _ (lt_of_block Z0)).trans Z0;clear hc p0 p1 p2 p3 pf Z0 E0;rw[exN_out];have HU:=rule_hu (w:=w1) R a1 c1 Z1 (Below.refl _ w1);obtain⟨z0,z1,z2,z3,zf⟩:=box4 Z1;clear Z1;go_wp2;obtain⟨wz,hwz,v0,v1,v2,v3,BZ⟩:=HU.out;rw[<-hwz];exact bodyPost_ret (v:=exN R a1 c1) (by simp[results,Tryz.results75,go_sem,v0,v1,v2,v3,exN]) rfl (HF.out _ _ _ _ SR b1 BZ))
 focus
  have hc:Calls Tryz.prog 112 #[exN e ao cap,.int .i64 0] w0 (PostRu w0 w0 P R):=by
   obtain⟨x,y,tx,ty,hx,-,-⟩:=hsh.2.1 (by omega);have hRx:R=coE e x y 0:=by rw[HR.out];unfold rulP;rw[if_neg (by omega),if_pos hk,kid_1 hx,kid_2 hx]
   rw[hRx];exact connective_c e x y 0 (by decide) ao cap P w0 hx S0
  clear hsh HT S0 HR;obtain⟨t6,t7,t8,t9,t10,t11,t12,t13,t14,t15,t16,t17,t18,t19,t21,t26⟩:=k_facts hk;clear hk;rw[exN_out] at hc;go_wp2_with fail;refine hc.mono ?_;rintro u w1 ⟨a1,c1,rfl,SR,b1⟩;have Z1:=(b1.block _ (lt_of_block Z0)).trans Z0;clear hc p0 p1 p2 p3 pf Z0 E0;rw[exN_out];have HU:=rule_hu (w:=w1) R a1 c1 Z1 (Below.refl _ w1);obtain⟨z0,z1,z2,z3,zf⟩:=box4 Z1;clear Z1;go_wp2;obtain⟨wz,hwz,v0,v1,v2,v3,BZ⟩:=HU.out;rw[<-hwz];exact bodyPost_ret (v:=exN R a1 c1) (by simp[results,Tryz.results75,go_sem,v0,v1,v2,v3,exN]) rfl (HF.out _ _ _ _ SR b1 BZ)
 focus
  have hc:Calls Tryz.prog 112 #[exN e ao cap,.int .i64 1] w0 (PostRu w0 w0 P R):=by
   obtain⟨x,y,tx,ty,hx,-,-⟩:=hsh.2.1 (by omega);have hRx:R=coE e x y 1:=by rw[HR.out];unfold rulP;rw[if_neg (by omega),if_neg (by omega),if_pos hk,kid_1 hx,kid_2 hx]
   rw[hRx];exact connective_c e x y 1 (by decide) ao cap P w0 hx S0
  clear hsh HT S0 HR;obtain⟨t6,t7,t8,t9,t10,t11,t12,t13,t14,t15,t16,t17,t18,t19,t21,t26⟩:=k_facts hk;clear hk;rw[exN_out] at hc;go_wp2_with fail;refine hc.mono ?_;rintro u w1 ⟨a1,c1,rfl,SR,b1⟩;have Z1:=(b1.block _ (lt_of_block Z0)).trans Z0;clear hc p0 p1 p2 p3 pf Z0 E0;rw[exN_out];have HU:=rule_hu (w:=w1) R a1 c1 Z1 (Below.refl _ w1);obtain⟨z0,z1,z2,z3,zf⟩:=box4 Z1;clear Z1;go_wp2;obtain⟨wz,hwz,v0,v1,v2,v3,BZ⟩:=HU.out;rw[<-hwz];exact bodyPost_ret (v:=exN R a1 c1) (by simp[results,Tryz.results75,go_sem,v0,v1,v2,v3,exN]) rfl (HF.out _ _ _ _ SR b1 BZ)
 focus
  have hc:Calls Tryz.prog 113 #[exN e ao cap] w0 (PostRu w0 w0 P R):=by
   obtain⟨x,y,z,hx⟩:=hsh.2.2 hk;have hRx:R=chE e x y z:=by rw[HR.out];unfold rulP;rw[if_neg (by omega),if_neg (by omega),if_neg (by omega),if_pos hk,kid_1 hx,kid_2 hx,kid_3 hx]
   rw[hRx];exact choice_c e x y z ao cap P w0 hx S0
  clear hsh HT S0 HR;obtain⟨t6,t7,t8,t9,t10,t11,t12,t13,t14,t15,t16,t17,t18,t19,t21,t26⟩:=k_facts hk;clear hk;rw[exN_out] at hc;go_wp2_with fail;refine hc.mono ?_;rintro u w1 ⟨a1,c1,rfl,SR,b1⟩;have Z1:=(b1.block _ (lt_of_block Z0)).trans Z0;clear hc p0 p1 p2 p3 pf Z0 E0;rw[exN_out];have HU:=rule_hu (w:=w1) R a1 c1 Z1 (Below.refl _ w1);obtain⟨z0,z1,z2,z3,zf⟩:=box4 Z1;clear Z1;go_wp2;obtain⟨wz,hwz,v0,v1,v2,v3,BZ⟩:=HU.out;rw[<-hwz];exact bodyPost_ret (v:=exN R a1 c1) (by simp[results,Tryz.results75,go_sem,v0,v1,v2,v3,exN]) rfl (HF.out _ _ _ _ SR b1 BZ)
 focus
  have hc:Calls Tryz.prog 114 #[exN e ao cap] w0 (PostRu w0 w0 P R):=by
   obtain⟨x,y,tx,ty,hx,-,-⟩:=hsh.2.1 (by omega);have hRx:R=qnE e x y:=by rw[HR.out];unfold rulP;rw[if_neg (by omega),if_neg (by omega),if_neg (by omega),if_neg (by omega),if_pos hk,kid_1 hx,kid_2 hx]
   rw[hRx];exact quantifier_c e x y ao cap P w0 hx S0
  clear hsh HT S0 HR;obtain⟨t6,t7,t8,t9,t10,t11,t12,t13,t14,t15,t16,t17,t18,t19,t21,t26⟩:=k_facts hk;clear hk;rw[exN_out] at hc;go_wp2_with fail;refine hc.mono ?_;rintro u w1 ⟨a1,c1,rfl,SR,b1⟩;have Z1:=(b1.block _ (lt_of_block Z0)).trans Z0;clear hc p0 p1 p2 p3 pf Z0 E0;rw[exN_out];have HU:=rule_hu (w:=w1) R a1 c1 Z1 (Below.refl _ w1);obtain⟨z0,z1,z2,z3,zf⟩:=box4 Z1;clear Z1;go_wp2;obtain⟨wz,hwz,v0,v1,v2,v3,BZ⟩:=HU.out;rw[<-hwz];exact bodyPost_ret (v:=exN R a1 c1) (by simp[results,Tryz.results75,go_sem,v0,v1,v2,v3,exN]) rfl (HF.out _ _ _ _ SR b1 BZ)
 focus
  obtain⟨x,tx,hx,hTx⟩:=hsh.1 (by omega);have HRx:Hid (R=if cnE x then x else e):=by show _=_;rw[HR.out];unfold rulP;rw[if_neg (by omega),if_neg (by omega),if_neg (by omega),if_neg (by omega),if_neg (by omega),if_pos hk,kid_1 hx]
  have S2:=S0;rw[hx] at S2;obtain⟨b,a0,c0,hao,hb,x0,x1,x2,x3,SX⟩:=SlcN.kidM (d:=.nil) S2;have hl0:(0:Int)<(e.kids.len:Int):=by rw[hx];show (0:Int)<((1:Nat):Int);decide
  subst hao;simp only[Fs.len,Nat.zero_mul,Nat.zero_add] at x0 x1 x2 x3;have hc:=iscon_c x a0 c0 w0;rw[exN_out] at hc;obtain⟨t6,t7,t8,t9,t10,t11,t12,t13,t14,t15,t16,t17,t18,t19,t21,t26⟩:=k_facts hk;clear hsh HT HR hk hx S2;go_wp2_with fail;refine hc.mono ?_;rintro u w1 ⟨rfl,b1⟩;have E1:=(b1.block _ (lt_of_block E0)).trans E0;have Z1:=(b1.block _ (lt_of_block Z0)).trans Z0;have x0:=(b1.cell (p:=⟨b,0,none⟩) hb).trans x0;have x1:=(b1.cell (p:=⟨b,1,none⟩) hb).trans x1;have x2:=(b1.cell (p:=⟨b,2,none⟩) hb).trans x2;have x3:=(b1.cell (p:=⟨b,3,none⟩) hb).trans x3;clear hc p0 p1 p2 p3 pf Z0 E0 hb;obtain⟨p0,p1,p2,p3,pf⟩:=box4 E1;cases hcx:cnE x with
  | true =>
   have hRe:R=x:=by rw[HRx.out,hcx];rfl
   subst hRe;have HU:=rule_hu (w:=w1) R a0 c0 Z1 (Below.refl _ w1);obtain⟨z0,z1,z2,z3,zf⟩:=box4 Z1;clear Z1;go_wp2;obtain⟨wz,hwz,v0,v1,v2,v3,BZ⟩:=HU.out;rw[<-hwz];exact bodyPost_ret (v:=exN R a0 c0) (by simp[results,Tryz.results75,go_sem,v0,v1,v2,v3,exN]) rfl (HF.out _ _ _ _ SX b1 BZ)
  | false =>
   have hRe:R=e:=by rw[HRx.out,hcx];rfl
   subst hRe;have HU:=rule_hu (w:=w1) R (some ⟨b,0,none⟩) cap Z1 (Below.refl _ w1);obtain⟨z0,z1,z2,z3,zf⟩:=box4 Z1;clear Z1;go_wp2;obtain⟨wz,hwz,v0,v1,v2,v3,BZ⟩:=HU.out;rw[<-hwz];exact bodyPost_ret (v:=exN R (some ⟨b,0,none⟩) cap) (by simp[results,Tryz.results75,go_sem,v0,v1,v2,v3,exN]) rfl (HF.out _ _ _ _ S0 b1 BZ)
 focus
  have hRe:R=e:=by rw[HR.out];unfold rulP;rw[if_neg (by omega),if_neg (by omega),if_neg (by omega),if_neg (by omega),if_neg (by omega),if_neg (by omega)]
  have t6:(e.k==6)=false:=by simp;omega
  have t7:(e.k==7)=false:=by simp;omega
  have t8:(e.k==8)=false:=by simp;omega
  have t9:(e.k==9)=false:=by simp;omega
  have t10:(e.k==10)=false:=by simp;omega
  have t11:(e.k==11)=false:=by simp;omega
  have t12:(e.k==12)=false:=by simp;omega
  have t13:(e.k==13)=false:=by simp;omega
  have t14:(e.k==14)=false:=by simp;omega
  have t15:(e.k==15)=false:=by simp;omega
  have t16:(e.k==16)=false:=by simp;omega
  have t17:(e.k==17)=false:=by simp;omega
  have t18:(e.k==18)=false:=by simp;omega
  have t19:(e.k==19)=false:=by simp;omega
  have t21:(e.k==21)=false:=by simp;omega
  have t26:(e.k==26)=false:=by simp;omega
  clear hsh HT HR hk;subst hRe;have Z1:=Z0;have b1:=Below.refl w0.heap.size w0;clear Z0;have HU:=rule_hu (w:=w0) R ao cap Z1 (Below.refl _ w0);obtain⟨z0,z1,z2,z3,zf⟩:=box4 Z1;clear Z1;go_wp2;obtain⟨wz,hwz,v0,v1,v2,v3,BZ⟩:=HU.out;rw[<-hwz];exact bodyPost_ret (v:=exN R ao cap) (by simp[results,Tryz.results75,go_sem,v0,v1,v2,v3,exN]) rfl (HF.out _ _ _ _ S0 b1 BZ)
theorem fldF_len (rul:Ex->Ex):∀ f:Fs,(fldF rul f).len=f.len
 | ⟨none⟩=>rfl
 | ⟨some ⟨k,n,nm,a,ks,r⟩⟩=>congrArg (·+1) (fldF_len rul r)
theorem fldF_app (rul:Ex->Ex)(g:Fs):∀ f:Fs,fldF rul (f.app g)=(fldF rul f).app (fldF rul g)
 | ⟨none⟩=>rfl
 | ⟨some ⟨k,n,nm,a,ks,r⟩⟩=>by
  show fldF rul (.cons k n nm a ks (Fs.app r g))=_;simp only[fldF,Fs.cons,fldF_app rul g r];rfl
theorem fldF_snoc (rul:Ex->Ex)(f:Fs)(y:Ex):fldF rul (f.snoc y)=(fldF rul f).snoc (fldE rul y):=by
 unfold Fs.snoc;rw[fldF_app];rfl
theorem TyF_mid {y:Ex}{r:Fs}:∀ {d:Fs}{l:List Int},TyF (d.app (Fs.ex y r)) l->∃t,TyE y t
 | ⟨none⟩,l,h=>by
  obtain⟨t,_,_,h1,_⟩:=TyF_cons.1 h;exact⟨t,h1⟩
 | ⟨some ⟨k,n,nm,a,ks,q⟩⟩,l,h=>by
  obtain⟨_,_,_,_,_,_,_,_,_,_,h1⟩:=h;exact TyF_mid (d:=q) h1
def FoldedOk (N:Nat):Prop:=∀ (e:Ex) (t:Int) (ao:Option Addr) (cap:Nat) (w:World),TyE e t->e.kids.size<N->e.kids.len<=1000000000->e.kids.short->SnA w e.kids ao ->
 Calls Tryz.prog 40 #[exN e ao cap] w (PostCp w (fldE rulP e))
theorem folded_step {N:Nat}(IH:FoldedOk N):FoldedOk (N+1):=by
 intro e t ao cap w hT hN hlen hsh S;have HT:Hid (TyE e t):=hT;clear hT;obtain⟨R,hR⟩:∃R,R=fldE rulP e:=⟨_,rfl⟩
 rw[<-hR];have HR:Hid (R=fldE rulP e):=hR;clear hR;obtain⟨ii,hii,hzi0,hzi1,hzi2⟩:=info_parts infoNode;obtain⟨w0,hw0⟩:∃w0,w0=(w.alloc (.cells #[.int .i64 e.k,.int .i64 e.n,stv e.nm,.slice ao e.kids.len cap] 34)).alloc (.cells #[.int .i64 0,.int .i64 0,.string ⟨#[]⟩,.slice none 0 0] 34):=⟨_,rfl⟩
 have B0:Below w.heap.size w w0:=by rw[hw0];exact((Below.refl _ w).alloc (Nat.le_refl _) _).alloc (by simp) _
 obtain⟨o0,ho0⟩:∃o0:Nat->Nat,o0=fun k=>if k=w.heap.size then 1 else if k=w.heap.size+1 then 3 else 0:=⟨_,rfl⟩
 have E0:Blk w0 o0 1 w.heap.size (.cells #[.int .i64 e.k,.int .i64 e.n,stv e.nm,.slice ao e.kids.len cap] 34):=by
  refine⟨?_,by rw[ho0];simp⟩;rw[hw0];exact(Below.heap_alloc _ _ _ (by simp)).trans (heap_alloc_new w _)
 have Z0:Blk w0 o0 3 (w.heap.size+1) (.cells #[.int .i64 0,.int .i64 0,.string ⟨#[]⟩,.slice none 0 0] 34):=by
  refine⟨?_,by rw[ho0];simp⟩;rw[hw0]
  have:=heap_alloc_new (w.alloc (.cells #[.int .i64 e.k,.int .i64 e.n,stv e.nm,.slice ao e.kids.len cap] 34)) (.cells #[.int .i64 0,.int .i64 0,.string ⟨#[]⟩,.slice none 0 0] 34)
  simpa using this
 have L0:∀ k,k<w.heap.size->o0 k=0:=fun k hk=>by rw[ho0];simp only;rw[if_neg (by omega),if_neg (by omega)]
 have A0:=AccCn.nil w0 o0 w.heap.size;rw[exN_out];go_enter Tryz.func40,Tryz.ntmps40;go_upto_region 1 with fail;rw[<-hw0];clear hw0 ho0;obtain⟨n0,hn0⟩:∃n0,n0=w.heap.size:=⟨_,rfl⟩
 unfold PostCp;rw[<-hn0] at E0 Z0 L0 A0 B0 ⊢;have HB:Hid (n0=w.heap.size):=hn0;clear hn0;obtain⟨p0,p1,p2,p3,pf⟩:=box4 E0.1;go_wp2;go_loopw [3,9] (fun v3 v9 wr=>∃(done r:Fs) (o:Nat->Nat),Hid (e.kids=done.app r)/\v9=.int .i64 (done.len:Nat)/\Blk wr o 1 n0 (.cells #[.int .i64 e.k,.int .i64 e.n,stv e.nm,.slice ao e.kids.len cap] 34)/\Blk wr o 3 (n0+1) (.cells #[.int .i64 0,.int .i64 0,.string ⟨#[]⟩,.slice none 0 0] 34)/\AccCn wr o n0 (fldF rulP done) v3/\Hid (∀ k,k<n0->o k=0)/\Below n0 w wr) (fun _ v9 _=>e.kids.len-(intOf v9).toNat)
 case atStart=>exact⟨.nil,e.kids,o0,rfl,by show _=Value.int .i64 ((0:Nat):Int);rfl,E0,Z0,A0,L0,B0⟩
 case round =>
  clear E0 Z0 A0 L0 B0 p0 p1 p2 p3 pf;obtain⟨done,r,o,hk,rfl,E1,Z1,A1,L1,B1⟩:=hrel;have hlk:e.kids.len=done.len+r.len:=by rw[hk.out,Fs.len_app]
  obtain⟨p0,p1,p2,p3,pf⟩:=box4 E1.1;obtain⟨z0,z1,z2,z3,zf⟩:=box4 Z1.1;cases r using Fs.on with
  | nil =>
   have hl0:¬(done.len:Int)<(e.kids.len:Int):=by simp only[Fs.len] at hlk;omega
   have HDN:Hid (e.kids=done):=by show e.kids=done;rw[hk.out];exact app_nil' done
   obtain⟨ac,hac⟩:∃ac,ac=fldF rulP done:=⟨_,rfl⟩
   rw[<-hac] at A1;have HE:Hid (R=rulP ⟨e.k,e.n,e.nm,0,ac⟩/\TyE ⟨e.k,e.n,e.nm,0,ac⟩ t):=by
    rw[hac,<-HDN.out];obtain⟨kd,hF,hf1,hf2,ht,hb,hn⟩:=HT.out;exact⟨HR.out,kd,(fld_same hF).2,hf1,hf2,ht,hb,hn⟩
   obtain⟨ad,cd,rfl,SD⟩:=A1.slc;have sA:Step (fun k=>k=1) wr o (wr.setCell ⟨n0,3,none⟩ (.slice ad ac.len cd)) o:=setStep _ wr o ⟨n0,3,none⟩ _ E1.2;have EA:=E1.set 3 (.slice ad ac.len cd);have ZA:=Z1.step sA (by decide);have SA:=SD.mono (w':=wr.setCell ⟨n0,3,none⟩ (.slice ad ac.len cd)) (Q:=fun k=>(n0<=k/\(o k=0\/o k=2))/\k<(wr.setCell ⟨n0,3,none⟩ (.slice ad ac.len cd)).heap.size) (fun i hp hl=>sA.block i hl (by rcases hp.2 with h|h<;>omega)) sA.size (fun _ h hl=>⟨h,Nat.lt_of_lt_of_le hl sA.size⟩);have BA:=below_stepB B1 sA (fun k hk=>by rw[L1.out k hk];decide) (by rw[HB.out];exact Nat.le_refl _);clear sA SD hk hlk hac;go_upto_region 8 with fail;generalize wr.setCell ⟨n0,3,none⟩ (.slice ad ac.len cd)=wa at *;clear p0 p1 p2 p3 pf z0 z1 z2 z3 zf E1 Z1 A1 L1 B1;have hc:Calls Tryz.prog 75 #[.agg #[.int .i64 e.k,.int .i64 e.n,stv e.nm,.slice ad ac.len cd]] wa (PostRv wa (fun k=>(n0<=k/\(o k=0\/o k=2))/\k<wa.heap.size) R):=by
    rw[HE.out.1];exact ruled_c ⟨e.k,e.n,e.nm,0,ac⟩ HE.out.2 ad cd _ wa (fun i h=>h.2) SA
   have EA1:wa.heap[n0]?=some (.cells #[.int .i64 e.k,.int .i64 e.n,stv e.nm,.slice ad ac.len cd] 34 (0,0)):=EA.1;have hzl:n0+1<wa.heap.size:=lt_of_block ZA.1;obtain⟨u0,u1,u2,u3,uf⟩:=box4 EA1;clear EA EA1 SA HE;go_wp2_with fail;refine hc.mono ?_;rintro u w1 ⟨a1,c1,rfl,S1,b1⟩;have Z1:=(b1.block _ hzl).trans ZA.1;have HU:=rule_hu (bx:=n0) (w:=w1) R a1 c1 Z1 (Below.refl _ w1);have HF:Hid (∀ wz,(∀ k,k≠n0+1->wz.heap[k]?=w1.heap[k]?)->Below n0 w1 wz->SlcN wz (Nw n0) R.kids a1 c1/\Below n0 w wz):=fun wz hne bz=>by
    refine⟨S1.mono (fun i hp hl=>hne i (fun ee=>by
     have h2:=ZA.2;rw[<-ee] at h2;rcases hp.1.2 with h|h<;>omega)) bz.size (fun i hp _=>hp.1.1),?_⟩
    exact(BA.trans (b1.mono (by omega))).trans bz
   have HQ:Hid (∀ k,k≠n0+1->((((w1.setCell ⟨n0+1,0,none⟩ (.int .i64 R.k)).setCell ⟨n0+1,1,none⟩ (.int .i64 R.n)).setCell ⟨n0+1,2,none⟩ (stv R.nm)).setCell ⟨n0+1,3,none⟩ (.slice a1 R.kids.len c1)).heap[k]?=w1.heap[k]?):=fun k hk=>heap_set4 w1 (n0+1) k _ _ _ _ hk;obtain⟨z0,z1,z2,z3,zf⟩:=box4 Z1;clear Z1 ZA BA hc b1 S1 hzl u0 u1 u2 u3 uf;rw[exN_out];go_wp2;obtain⟨wz,hwz,v0,v1,v2,v3,bz⟩:=HU.out;have hq:=HQ.out;rw[<-hwz] at hq;obtain⟨SZ,BZ⟩:=HF.out wz hq bz;rw[<-hwz];exact bodyPost_ret (v:=exN R a1 c1) (by simp[results,Tryz.results40,go_sem,v0,v1,v2,v3,exN]) rfl ⟨a1,c1,rfl,by rw[<-HB.out];exact SZ,by rw[<-HB.out];exact BZ⟩
  | cons kk kn km ka kks kr =>
   have hl0:(done.len:Int)<(e.kids.len:Int):=by simp only[Fs.len] at hlk;omega
   have hl1:done.len<e.kids.len:=by omega
   have hsz:e.kids.size=done.size+(kks.size+kr.size+1):=by rw[hk.out,Fs.size_app];rfl
   have hsk:(Fs.cons kk kn km ka kks kr).short:=Fs.app_short (by rw[<-hk.out];exact hsh);obtain⟨b,off,ak,ck,hao,lb1,-,x0,x1,x2,x3,SK⟩:=SlN.kidQ (by rw[<-hk.out];exact SnA.below S (by rw[<-HB.out];exact B1));subst hao;obtain⟨y,hy⟩:∃y:Ex,y=fldE rulP ⟨kk,kn,km,ka,kks⟩:=⟨_,rfl⟩
   obtain⟨ac,hac⟩:∃ac,ac=fldF rulP done:=⟨_,rfl⟩
   rw[<-hac] at A1;have HLA:Hid (ac.len=done.len):=by show _=_;rw[hac,fldF_len]
   obtain⟨tk,hTk⟩:∃tk,TyE ⟨kk,kn,km,ka,kks⟩ tk:=by
    obtain⟨kd,hF,-⟩:=HT.out;rw[hk.out] at hF;exact TyF_mid (y:=⟨kk,kn,km,ka,kks⟩) hF
   have hk2:Hid (e.kids=(done.snoc ⟨kk,kn,km,ka,kks⟩).app kr):=by show e.kids=_;rw[hk.out];unfold Fs.snoc;rw[Fs.app_assoc];rfl
   have HS:Hid (fldF rulP (done.snoc ⟨kk,kn,km,ka,kks⟩)=ac.snoc y):=by show _=_;rw[hy,hac,fldF_snoc]
   clear hac;have hl2:(done.len:Int)+1=((done.snoc ⟨kk,kn,km,ka,kks⟩).len:Nat):=by rw[Fs.len_snoc];rfl
   -- the kid's box
   have s5:=boxStep (fun _=>False) wr o (.cells #[.int .i64 kk,.int .i64 kn,stv km,.slice ak kks.len ck] 34);have K5:=boxBlk wr o #[.int .i64 kk,.int .i64 kn,stv km,.slice ak kks.len ck] 34;have b5:Below wr.heap.size wr (wr.alloc (.cells #[.int .i64 kk,.int .i64 kn,stv km,.slice ak kks.len ck] 34)):=(Below.refl _ wr).alloc (Nat.le_refl _) _;have hn0:n0<=wr.heap.size:=by have:=E1.lt;omega
   have L5:Hid (∀ k,k<n0->newLab wr o 0 k=0):=fun k hk=>by rw[newLab_old (by omega)];exact L1.out k hk
   have E5:=E1.step s5 id;have Z5:=Z1.step s5 id;have A5:=A1.step s5 id id;have B5:=below_stepB B1 s5 (fun _ _=>id) (by rw[HB.out];exact Nat.le_refl _);have SK5:=SnA.below SK b5;clear hlk hk s5 b5 E1 Z1 A1 B1 L1 SK p0 p1 p2 p3 pf z0 z1 z2 z3 zf;go_upto_region 5 with fail;generalize newLab wr o 0=o5 at *;generalize wr.alloc (.cells #[.int .i64 kk,.int .i64 kn,stv km,.slice ak kks.len ck] 34)=w5 at *;generalize wr.heap.size=xb at *;clear x0 x1 x2 x3;obtain⟨q0,q1,q2,q3,qf⟩:=box4 K5.1;have hc0:=IH ⟨kk,kn,km,ka,kks⟩ tk ak ck w5 hTk (by show kks.size<N;omega) hsk.2.1 hsk.2.2.1 SK5;have hc:Calls Tryz.prog 40 #[.agg #[.int .i64 kk,.int .i64 kn,stv km,.slice ak kks.len ck]] w5 (PostCp w5 y):=by rw[hy];exact hc0
   clear hc0 hsz hsk hy SK5 hTk;go_wp2_with fail;refine hc.mono ?_;rintro x w6 ⟨ay,cy,rfl,S6,b6⟩;have hn5:n0<=w5.heap.size:=by have:=E5.lt;omega
   have s6:=Below.toStepC (I:=fun _=>False) (o:=o5) b6;have T6:SlcN w6 (N0 n0 (newLab w5 o5 0)) y.kids ay cy:=S6.mono (fun _ _ _=>rfl) (Nat.le_refl _) (fun i hp hl=>⟨Nat.le_trans hn5 hp,newLab_new hp⟩);have L6:Hid (∀ k,k<n0->newLab w5 o5 0 k=0):=fun k hk=>by rw[newLab_old (by omega)];exact L5.out k hk
   have E6:=E5.step s6 id;have Z6:=Z5.step s6 id;have A6:=A5.step s6 id id;have B6:=below_stepB B5 s6 (fun _ _=>id) (by rw[HB.out];exact Nat.le_refl _);generalize newLab w5 o5 0=o6 at *;clear hc S6 b6 s6 E5 Z5 A5 B5 L5 q0 q1 q2 q3 qf K5;have s7:=boxStep (fun _=>False) w6 o6 (.cells #[.int .i64 y.k,.int .i64 y.n,stv y.nm,.slice ay y.kids.len cy] 34);have T7:=T6.lab s7 id;have hs6:n0<=w6.heap.size:=by have:=E6.lt;omega
   have L7:Hid (∀ k,k<n0->newLab w6 o6 0 k=0):=fun k hk=>by rw[newLab_old (by omega)];exact L6.out k hk
   have E7:=E6.step s7 id;have Z7:=Z6.step s7 id;have A7:=A6.step s7 id id;have B7:=below_stepB B6 s7 (fun _ _=>id) (by rw[HB.out];exact Nat.le_refl _);obtain⟨xs,R7,F7,-,-⟩:=A7;obtain⟨a7,c7,hv7⟩:=R7.form;subst hv7;have b1:ac.len+1<=maxLen:=by have:=HLA.out;unfold maxLen;omega
   have b2:(ac.len+1)*56<=140737488355328:=by have:=HLA.out;omega
   have hone:∀ u ∈ [Value.int .i64 y.k,.int .i64 y.n,stv y.nm,.slice ay y.kids.len cy],u.oneCell'=true:=by intro u hu;simp at hu;rcases hu with rfl|rfl|rfl|rfl<;>rfl
   have hne:∀ k,k<n0->newLab w6 o6 0 k≠2:=fun k hk=>by rw[L7.out k hk];decide
   have hw7:n0<=(w6.alloc (.cells #[.int .i64 y.k,.int .i64 y.n,stv y.nm,.slice ay y.kids.len cy] 34)).heap.size:=by simp;omega
   rw[exN_out];clear E6 Z6 A6 B6 L6 T6 s7;go_wp2_with (first|(at_builtin;refine wpList_append_lab rfl (.tmp 13) (.tmp 16) 32 rfl 34 ii _ 4 56 Tryz.underlying32 hii hzi0 hzi1 hzi2 rfl (by decide) (newLab w6 o6 0) 2 _ ac.len xs rfl R7 ⟨w6.heap.size,0,none⟩ 1 1 [Value.int .i64 y.k,.int .i64 y.n,stv y.nm,.slice ay y.kids.len cy] rfl rfl (new_cells_at w6 [Value.int .i64 y.k,.int .i64 y.n,stv y.nm,.slice ay y.kids.len cy] 34) hone (by decide) b1 b2 ?_)|go_in);intro g9 c9 w9 o9 r9 s9;have A9:AccCn w9 o9 n0 (ac.snoc y) (.slice (some ⟨g9,0,none⟩) (ac.len+1) c9):=AccCn.push F7 T7 s9 hne hw7 r9;have E9:=E7.step s9 (by decide);have Z9:=Z7.step s9 (by decide);have L9:Hid (∀ k,k<n0->o9 k=0):=fun k hk=>(s9.lab k (by omega)).trans (L7.out k hk);have B9:=below_stepB B7 s9 hne (by rw[HB.out];exact Nat.le_refl _);rw[<-HS.out] at A9;clear E7 Z7 B7 L7 T7 R7 F7 r9 s9 HS;go_wp2;go_roundw
   case rel=>exact⟨_,kr,o9,hk2,by rw[<-hl2],E9,Z9,A9,L9,B9⟩
   case measure=>simp[intOf];omega
theorem folded_ok:∀ N,FoldedOk N -- 40
 | 0=>fun e t ao cap w hT h=>absurd h (Nat.not_lt_zero _)
 | N+1=>folded_step (folded_ok N)
abbrev PD (P:Nat->Prop)(n0:Nat)(o:Nat->Nat):Nat->Prop:=fun k=>o k=0/\((P k/\k<n0)\/n0<=k)
theorem FcN.labD {I:Nat->Prop}{P:Nat->Prop}{w w':World}{o o':Nat->Nat}{n0:Nat}{f:Fs}{xs:List Value}(h:FcN w (PD P n0 o) f xs)(s:Step I w o w' o')(h0:¬I 0):FcN w' (PD P n0 o') f xs :=
 h.mono (fun k hp hl=>s.block k hl (by rw[hp.1];exact h0)) s.size (fun k hp hl=>⟨(s.lab k hl).trans hp.1,hp.2⟩)
theorem SlN.labD {I:Nat->Prop}{P:Nat->Prop}{w w':World}{o o':Nat->Nat}{n0:Nat}{f:Fs}{ao:Option Addr}(h:SlN w (PD P n0 o) f ao)(s:Step I w o w' o')(h0:¬I 0):SlN w' (PD P n0 o') f ao :=
 h.mono (fun k hp hl=>s.block k hl (by rw[hp.1];exact h0)) s.size (fun k hp hl=>⟨(s.lab k hl).trans hp.1,hp.2⟩)
def AccD (w:World)(o:Nat->Nat)(P:Nat->Prop)(n0:Nat)(acc:Fs)(v:Value):Prop:=∃xs,Row w o 2 34 4 v acc.len xs/\FcN w (PD P n0 o) acc xs/\∀ k,v.ownBlock=some k->n0<=k
theorem AccD.nil (w:World)(o:Nat->Nat)(P:Nat->Prop)(n0:Nat):AccD w o P n0 .nil (.slice none 0 0):=⟨[],Row.nil _ _ _ _ _,rfl,fun k hk=>by simp[Value.ownBlock] at hk⟩
theorem AccD.step {I:Nat->Prop}{P:Nat->Prop}{w w':World}{o o':Nat->Nat}{n0:Nat}{acc:Fs}{v:Value}(h:AccD w o P n0 acc v)(s:Step I w o w' o')(h0:¬I 0)(h2:¬I 2):AccD w' o' P n0 acc v:=by
 obtain⟨xs,r,f,g⟩:=h;exact⟨xs,r.step s h2,f.labD s h0,g⟩
theorem AccD.push {P:Nat->Prop}{w w2:World}{o o2:Nat->Nat}{n0 ce g2 c2:Nat}{acc:Fs}{xs:List Value}{y:Ex}{ay:Option Addr}(f:FcN w (PD P n0 o) acc xs)(S:SlN w (PD P n0 o) y.kids ay)(s:Step (fun x=>x=2) w o w2 o2)(hlo:∀ k,k<n0->o k≠2)(hw:n0<=w.heap.size)
  (r:Row w2 o2 2 34 4 (.slice (some ⟨g2,0,none⟩) (acc.len+1) c2) (acc.len+1) (xs++[.int .i64 y.k,.int .i64 y.n,stv y.nm,.slice ay y.kids.len ce])):AccD w2 o2 P n0 (acc.snoc y) (.slice (some ⟨g2,0,none⟩) (acc.len+1) c2):=by
 refine⟨_,by rw[Fs.len_snoc];exact r,(f.labD s (by decide)).app (FcN.one ce (S.labD s (by decide))),fun k hk=>?_⟩;simp[Value.ownBlock] at hk;subst hk;have h2:o2 g2=2:=r.2 g2 rfl;rcases Nat.lt_or_ge g2 n0 with h3|h3
 ·exact absurd ((s.lab g2 (by omega)).symm.trans h2) (hlo g2 h3)
 ·exact h3
theorem AccD.sl {P:Nat->Prop}{w:World}{o:Nat->Nat}{n0:Nat}{acc:Fs}{v:Value}(h:AccD w o P n0 acc v):∃ao cap,v=.slice ao acc.len cap/\SlN w (fun k=>(o k=0\/o k=2)/\((P k/\k<n0)\/n0<=k)) acc ao:=by
 obtain⟨xs,r,f,g⟩:=h;obtain⟨ao,cap,hv⟩:=r.form;refine⟨ao,cap,hv,?_⟩;rcases Nat.eq_zero_or_pos acc.len with h0|h0
 ·exact .inl (nil_of_len0 h0)
 ·obtain⟨g',cap',hv',hg,-,-,hlt,hc,-⟩:=r.pos h0;have hl:=f.len;rw[hv] at hv';injection hv' with hv1
  subst hv1;have hgn:n0<=g':=g g' (by rw[hv];rfl);refine .inr ⟨g',0,xs,rfl,⟨.inr hg,.inr hgn⟩,hlt,fun j u hu=>?_,f.mono (fun _ _ _=>rfl) (Nat.le_refl _) (fun k hp _=>⟨.inl hp.1,hp.2⟩)⟩;have hj:j<xs.length:=(List.getElem?_eq_some_iff.1 hu).1;rw[Nat.zero_add,hc j (by omega)];exact hu
def celD (cells:List Int)(n:Int)(x:Ex)(ar wi:Nat)(s:Rg):Option (Rg × Int) :=
 if 0<=n/\n<(cells.length:Int) then (match kndD cells x ar wi s with|none=>none|some (s2,k0)=>anD (keepP cells n (Fs.ex x .nil) ar s2) k0) else none
theorem celD_lv {cells:List Int}{i:Nat}{x:Ex}{ar wi:Nat}{s:Rg}{lv:Int}(h:cells[i]?=some lv)(hl:(ar:Int)<lv):celD cells (i:Nat) x ar wi s=none:=by
 unfold celD;split
 ·cases kndD cells x ar wi s with
  | none=>rfl
  | some z =>
   obtain⟨s2,k0⟩:=z;simp only[keepP,Int.toNat_natCast,h];rw[if_pos (.inl hl)];rfl
 ·rfl
theorem celD_in {cells:List Int}{i:Nat}{x:Ex}{ar wi:Nat}{s:Rg}{lv:Int}(h:cells[i]?=some lv)(hl:¬(ar:Int)<lv):celD cells (i:Nat) x ar wi s=(match kndD cells x ar wi s with|none=>none|some (s2,k0)=>if lv<hgE x ar then none else (match s2.2 i with|none=>some ((s2.1,fun j=>if j=i then some x else s2.2 j),k0)|some y=>if sameE y x=true then some (s2,k0) else none)):=by
 have hi:i<cells.length:=by
  rcases Nat.lt_or_ge i cells.length with h1|h1
  ·exact h1
  ·rw[List.getElem?_eq_none h1] at h;cases h
 unfold celD;rw[if_pos ⟨by omega,by omega⟩];cases kndD cells x ar wi s with
 | none=>rfl
 | some z =>
  obtain⟨s2,k0⟩:=z;have hh:(Fs.ex x .nil).head=x:=rfl;simp only[keepP,Int.toNat_natCast,h,hh];by_cases h2:lv<hgE x ar
  ·rw[if_pos (.inr h2),if_pos h2];rfl
  ·rw[if_neg (by rintro (h3|h3);exact hl h3;exact h2 h3),if_neg h2];cases s2.2 i with
   | none=>rfl
   | some y =>
    simp only;split<;>rfl
theorem KT.put {w:World}{wb kb nc:Nat}{t:Nat->Option Ex}(h:KT w (Nf2 wb kb) kb nc t)(i:Nat)(x y:Ex)(ak:Option Addr)(ck:Nat)(hs:sameE x y=true)(hf:FitN y)(S:SlN w (Nf2 wb kb) y.kids ak)(hwb:wb<w.heap.size) :
  KT ((w.alloc (.cells #[.int .i64 y.k,.int .i64 y.n,stv y.nm,.slice ak y.kids.len ck] 34)).setCell ⟨kb,i,none⟩ (.slice (some ⟨w.heap.size,0,none⟩) 1 1)) (Nf2 wb kb) kb nc (fun j=>if j=i then some x else t j):=by
 obtain⟨arr,h1,h2,h3⟩:=h;have hkb:=lt_of_block h1;generalize hob:(Obj.cells #[.int .i64 y.k,.int .i64 y.n,stv y.nm,.slice ak y.kids.len ck] 34 (0,0))=ob;have hk1:(w.alloc ob).heap[kb]?=some (.cells arr 32 (0,0)):=(Below.heap_alloc w ob kb hkb).trans h1;have hb:∀ k,Nf2 wb kb k->k<w.heap.size->((w.alloc ob).setCell ⟨kb,i,none⟩ (.slice (some ⟨w.heap.size,0,none⟩) 1 1)).heap[k]?=w.heap[k]?:=fun k hk hl=>(heap_setCell_other _ _ k _ hk.2).trans (Below.heap_alloc w ob k hl);have hsz:w.heap.size<=((w.alloc ob).setCell ⟨kb,i,none⟩ (.slice (some ⟨w.heap.size,0,none⟩) 1 1)).heap.size:=by simp
 have hnew:((w.alloc ob).setCell ⟨kb,i,none⟩ (.slice (some ⟨w.heap.size,0,none⟩) 1 1)).heap[w.heap.size]?=some ob:=(heap_setCell_other _ _ _ _ (by show w.heap.size≠kb;omega)).trans (heap_alloc_new w ob);refine⟨_,(Blk.set (o:=fun _=>0) (i:=0) ⟨hk1,rfl⟩ i _).1,by simp[h2],fun j hj=>?_⟩;by_cases hji:j=i
 ·subst hji;refine .inr ⟨x,y,w.heap.size,1,by simp,hs,by simp[h2,hj],?_,hf⟩;subst hob;exact .inr ⟨w.heap.size,0,_,rfl,⟨by omega,by omega⟩,by simp,fun m u hu=>by rw[Nat.zero_add,cell_of_row _ _ _ _ _ _ hnew];simpa using hu,FcN.one ck (S.mono hb hsz (fun _ h _=>h))⟩
 ·rcases h3 j hj with ⟨h4,h5⟩|⟨x',y',g,cap,q1,q2,q3,q4,q5⟩
  ·exact .inl ⟨by simp[hji,h4],by rw[Array.getElem?_setIfInBounds_ne (Ne.symm hji)];exact h5⟩
  ·exact .inr ⟨x',y',g,cap,by simp[hji,q1],q2,by rw[Array.getElem?_setIfInBounds_ne (Ne.symm hji)];exact q3,q4.mono hb hsz (fun _ h _=>h),q5⟩
theorem cell_d {N:Nat}(IH:KindD N)(k0 n:Int)(nm:List UInt8)(a:Int)(x:Ex)(ao:Option Addr)(cap wb kb:Nat)(bv:Value)(cells:List Int)(ar wi:Nat)(s:Rg)(w:World)(hN:x.kids.size<N)(hfx:FitN x)(hwi:wi<=4)(har:ar<=wi)(hne:wb≠kb)(h:WD w wb kb bv cells.length (some s))(hn:Inw w (Nf2 wb kb) bv cells)(S:SlN w (Nf2 wb kb) (Fs.ex x .nil) ao) :
  Calls Tryz.prog 154 #[.pointer (some ⟨wb,0,none⟩),.agg #[.int .i64 k0,.int .i64 n,stv nm,.slice ao 1 cap],.int .i64 (ar:Nat),.int .i64 (wi:Nat)] w (PostKD w wb kb bv cells.length (celD cells n x ar wi s)):=by
 have B0:Below w.heap.size w (w.alloc (.cells #[.int .i64 k0,.int .i64 n,stv nm,.slice ao 1 cap] 34)):=(Below.refl _ w).alloc (Nat.le_refl _) _;have E0:(w.alloc (.cells #[.int .i64 k0,.int .i64 n,stv nm,.slice ao 1 cap] 34)).heap[w.heap.size]?=some (.cells #[.int .i64 k0,.int .i64 n,stv nm,.slice ao 1 cap] 34):=heap_alloc_new w _;have W0:=h.below B0;have S0:=S.belowP B0;have N0:=hn.below B0;have hwb:=h.lt;have hkb:=h.ltk;clear h S hn;go_enter Tryz.func154,Tryz.ntmps154;go_upto_region 1 with fail;generalize w.alloc (.cells #[.int .i64 k0,.int .i64 n,stv nm,.slice ao 1 cap] 34)=w0 at *;have KK:Kp wb kb w w0:=Kp.ofBelow B0;obtain⟨bx,hbx⟩:∃bx,bx=w.heap.size:=⟨_,rfl⟩
 rw[<-hbx] at E0 ⊢;have hb1:bx≠wb:=by omega
 have hb2:bx≠kb:=by omega
 clear hbx hwb hkb B0;obtain⟨p0,p1,p2,p3,pf⟩:=box4 E0;have V0:=W0.1;have hk0:=W0.ltk;obtain⟨q0,q1,q2,q3,qf⟩:=box4 V0;have BAD:∀ {w2:World},Below w0.heap.size w0 w2->celD cells n x ar wi s=none->Hid (PostKD w wb kb bv cells.length (celD cells n x ar wi s) (.returned (.int .i64 0)) (w2.setCell ⟨wb,3,none⟩ (.bool false))):=by
  intro w2 b2 hz;rw[hz];exact⟨⟨0,rfl,fun s k h=>by cases h⟩,⟨by simpa using Nat.lt_of_lt_of_le hk0 b2.size,_,_,(set4d ((b2.block _ (lt_of_block V0)).trans V0) (.bool false)).2⟩,(KK.trans (Kp.ofBelow b2)).set _ _ (.inr (.inl rfl))⟩
 have bdr:∀ m,Below w0.heap.size w0 (w0.drewN m):=fun m=>⟨rfl,rfl,rfl,Nat.le_refl _,fun _ _=>rfl⟩;obtain⟨aoc,capc,hbv,hcells⟩:=N0;have N0:Inw w0 (Nf2 wb kb) bv cells:=⟨aoc,capc,hbv,hcells⟩
 subst hbv;by_cases hn0:n<0
 ·have hd:decide (n<0)=true:=decide_eq_true hn0;have HB:=fun m=>BAD (bdr m) (by unfold celD;rw[if_neg (by omega)]);clear BAD bdr S0 W0 hcells N0 KK V0 E0;go_wp2_with fail
  go_quiet (fail)
  have HB:=HB nq;go_wp2;exact bodyPost_ret (v:=.int .i64 0) (by simp[results,Tryz.results154,go_sem]) rfl HB.out
 ·have hd:decide (n<0)=false:=decide_eq_false hn0;obtain⟨i,rfl⟩:∃i:Nat,n=(i:Nat):=⟨n.toNat,by omega⟩
  by_cases hn1:(cells.length:Int)<=(i:Int)
  ·have HB:=fun m=>BAD (bdr m) (by unfold celD;rw[if_neg (by omega)]);clear BAD bdr S0 W0 hcells N0 KK V0 E0;go_wp2_with fail
   go_quiet (fail)
   have HB:=HB nq;go_wp2;exact bodyPost_ret (v:=.int .i64 0) (by simp[results,Tryz.results154,go_sem]) rfl HB.out
  ·have hd1:decide ((cells.length:Int)<=(i:Int))=false:=decide_eq_false hn1;have hil:i<cells.length:=by omega
   have hiI:(i:Int)<(cells.length:Int):=by omega
   obtain⟨lv,hlv⟩:∃lv,cells[i]?=some lv:=⟨_,List.getElem?_eq_getElem hil⟩
   rcases hcells with hcells|⟨cb,coff,rfl,hcp,hcl,hcc⟩
   ·subst hcells;simp at hil
   have ccl:=hcc i lv hlv;clear hcc;by_cases hlt:(ar:Int)<lv
   ·have HB:=fun m=>BAD (bdr m) (celD_lv hlv hlt);clear BAD bdr S0 W0 N0 KK V0 E0;go_wp2_with fail
    go_quiet (fail)
    have HB:=HB nq;go_wp2;exact bodyPost_ret (v:=.int .i64 0) (by simp[results,Tryz.results154,go_sem]) rfl HB.out
   ·have hd2:decide ((ar:Int)<lv)=false:=decide_eq_false hlt;have HC:Hid (celD cells (i:Nat) x ar wi s=_):=celD_in hlv hlt;clear BAD;go_wp2_with fail
    go_quiet (fail)
    have bd:=bdr nq;clear bdr;have W1:=W0.below bd;have S1:=S0.belowP bd;have N1:=N0.below bd;have E1:=(bd.block _ (lt_of_block E0)).trans E0;have KK1:=KK.trans (Kp.ofBelow bd);have ccl1:=(bd.cell (p:=⟨cb,coff+i,none⟩) hcl).trans ccl;have hcl1:cb<(w0.drewN nq).heap.size:=Nat.lt_of_lt_of_le hcl bd.size;clear p0 p1 p2 p3 pf q0 q1 q2 q3 qf W0 S0 N0 E0 KK V0 bd ccl hcl;generalize w0.drewN nq=w1 at *;obtain⟨p0,p1,p2,p3,pf⟩:=box4 E1;obtain⟨gb,off,ak,ck,hao,hgl,hgp,y0,y1,y2,y3,SK⟩:=SlN.kidQ (x:=.nil) (r:=.nil) (ks:=x.kids) (k:=x.k) (n:=x.n) (nm:=x.nm) (a:=x.a) S1;subst hao;have hl0:(Fs.nil).len=0:=rfl;simp only[hl0,Nat.zero_mul,Nat.add_zero] at y0 y1 y2 y3;have c1:=IH x ak ck wb kb _ cells ar wi s w1 hN hfx hwi har hne W1 N1 SK;rw[exN_out] at c1;go_wp2_with fail;refine c1.mono ?_;rintro z w2 ⟨⟨k',rfl,hk'⟩,W2,K2⟩;have E2:=(K2.block _ (lt_of_block E1) hb1 hb2).trans E1;have S2:=S1.kp K2;have N2:=N1.kp K2;have KK2:=KK1.trans K2;have cc2:=(K2.cell hcl1 hcp.1 hcp.2 _).trans ccl1;have hcl2:=Nat.lt_of_lt_of_le hcl1 K2.size;have y0:=(K2.cell hgl hgp.1 hgp.2 _).trans y0;have y1:=(K2.cell hgl hgp.1 hgp.2 _).trans y1;have y2:=(K2.cell hgl hgp.1 hgp.2 _).trans y2;have y3:=(K2.cell hgl hgp.1 hgp.2 _).trans y3;have hgl2:=Nat.lt_of_lt_of_le hgl K2.size;have SK2:=SK.kp K2;clear c1 p0 p1 p2 p3 pf W1 S1 N1 E1 KK1 ccl1 hcl1 hgl SK K2 S2;obtain⟨p0,p1,p2,p3,pf⟩:=box4 E2;cases hr:kndD cells x ar wi s with
    | none =>
     have HR:Hid (PostKD w wb kb (.slice (some ⟨cb,coff,none⟩) cells.length capc) cells.length (celD cells (i:Nat) x ar wi s) (.returned (.int .i64 0)) w2):=by
      rw[HC.out,hr];rw[hr] at W2;exact⟨⟨0,rfl,fun s k h=>by cases h⟩,W2,KK2⟩
     rw[hr] at W2;obtain⟨-,p,kv,V2⟩:=W2;obtain⟨q0,q1,q2,q3,qf⟩:=box4 V2;clear hr hk' HC V2 SK2 N2 KK2 E2;go_wp2;exact bodyPost_ret (v:=.int .i64 0) (by simp[results,Tryz.results154,go_sem]) rfl HR.out
    | some z =>
     obtain⟨s2,k⟩:=z;obtain rfl:=hk' s2 k hr;have hnv:x.nv:=by
      unfold kndD at hr;cases hx:rgE cells x ar wi s with
      | none=>rw[hx] at hr;cases hr
      | some z=>obtain⟨s',kz⟩:=z;exact rgE_nv hx
     rw[hr] at W2;have HC2:Hid (celD cells (i:Nat) x ar wi s=if lv<hgE x ar then none else (match s2.2 i with|none=>some ((s2.1,fun j=>if j=i then some x else s2.2 j),k')|some y=>if sameE y x=true then some (s2,k') else none)):=by show _=_;rw[HC.out,hr]
     have W2:WD w2 wb kb (.slice (some ⟨cb,coff,none⟩) cells.length capc) cells.length (some s2):=W2;clear hr hk' HC;generalize celD cells (i:Nat) x ar wi s=CR at *;have hk2:=W2.ltk;obtain⟨V2,hs2,KT2⟩:=W2;obtain⟨q0,q1,q2,q3,qf⟩:=box4 V2;have hx2:=lt_of_block E2;have hw2:=lt_of_block V2;have bdT:Below w2.heap.size w2 w2.drew:=⟨rfl,rfl,rfl,Nat.le_refl _,fun _ _=>rfl⟩
     have c5:=hangd_ok (x.kids.size+1) x ak ck ar w2.drew (by omega) hfx.len hfx.sh hnv (by omega) (by omega) (SK2.all.below bdT);rw[exN_out] at c5;generalize hgE x ar=hx at *;go_wp2_with fail;go_region_held3 (fun wx=>wx.cell? ⟨bx,1,none⟩=some (.int .i64 (i:Nat))/\wx.cell? ⟨bx,3,none⟩=some (.slice (some ⟨gb,off,none⟩) 1 cap)/\wx.cell? ⟨wb,0,none⟩=some (.slice (some ⟨cb,coff,none⟩) cells.length capc)/\wx.cell? ⟨cb,coff+i,none⟩=some (.int .i64 lv)/\wx.cell? ⟨gb,off,none⟩=some (.int .i64 x.k)/\wx.cell? ⟨gb,off+1,none⟩=some (.int .i64 x.n)/\wx.cell? ⟨gb,off+2,none⟩=some (stv x.nm)/\wx.cell? ⟨gb,off+3,none⟩=some (.slice ak x.kids.len ck))
      (first|exact KA|go_keep)
      (first
       | (go_at_call 51;refine c5.mono ?_;rintro z w3 ⟨rfl,B3⟩;have KA:w3.cell? ⟨bx,1,none⟩=some (.int .i64 (i:Nat))/\w3.cell? ⟨bx,3,none⟩=some (.slice (some ⟨gb,off,none⟩) 1 cap)/\w3.cell? ⟨wb,0,none⟩=some (.slice (some ⟨cb,coff,none⟩) cells.length capc)/\w3.cell? ⟨cb,coff+i,none⟩=some (.int .i64 lv)/\w3.cell? ⟨gb,off,none⟩=some (.int .i64 x.k)/\w3.cell? ⟨gb,off+1,none⟩=some (.int .i64 x.n)/\w3.cell? ⟨gb,off+2,none⟩=some (stv x.nm)/\w3.cell? ⟨gb,off+3,none⟩=some (.slice ak x.kids.len ck):=⟨(B3.cell (p:=⟨bx,1,none⟩) hx2).trans p1,(B3.cell (p:=⟨bx,3,none⟩) hx2).trans p3,(B3.cell (p:=⟨wb,0,none⟩) hw2).trans q0,(B3.cell (p:=⟨cb,coff+i,none⟩) hcl2).trans cc2,(B3.cell (p:=⟨gb,off,none⟩) hgl2).trans y0,(B3.cell (p:=⟨gb,off+1,none⟩) hgl2).trans y1,(B3.cell (p:=⟨gb,off+2,none⟩) hgl2).trans y2,(B3.cell (p:=⟨gb,off+3,none⟩) hgl2).trans y3⟩))
     have B23:Below w2.heap.size w2 w3:=bdT.trans B3;have E3:=(B23.block _ hx2).trans E2;have V3:=(B23.block _ hw2).trans V2;have KT3:=KT2.mono (B23.block _ hk2) (fun i _ hl=>B23.block i hl) B23.size;have KK3:=KK2.trans (Kp.ofBelow B23);have SK3:=SK2.belowP B23;have hk3:=Nat.lt_of_lt_of_le hk2 B23.size;have hgl3:=Nat.lt_of_lt_of_le hgl2 B23.size;obtain⟨-,-,-,-,y0,y1,y2,y3⟩:=KA;clear c5 p0 p1 p2 p3 pf q0 q1 q2 q3 qf E2 V2 KT2 KK2 SK2 hk2 hgl2 hx2 hw2 bdT B3 B23 cc2 hcl2 N2;obtain⟨p0,p1,p2,p3,pf⟩:=box4 E3;obtain⟨q0,q1,q2,q3,qf⟩:=box4 V3;by_cases hlh:lv<hx
     ·have HR:Hid (PostKD w wb kb (.slice (some ⟨cb,coff,none⟩) cells.length capc) cells.length CR (.returned (.int .i64 0)) (w3.setCell ⟨wb,3,none⟩ (.bool false))):=by
       rw[HC2.out,if_pos hlh];exact⟨⟨0,rfl,fun s k h=>by cases h⟩,⟨by simpa using hk3,_,_,(set4d V3 (.bool false)).2⟩,KK3.set _ _ (.inr (.inl rfl))⟩
      clear HC2 KT3 KK3 SK3 E3 V3;go_wp2;exact bodyPost_ret (v:=.int .i64 0) (by simp[results,Tryz.results154,go_sem]) rfl HR.out
     ·have HC3:Hid (CR=(match s2.2 i with|none=>some ((s2.1,fun j=>if j=i then some x else s2.2 j),k')|some y=>if sameE y x=true then some (s2,k') else none)):=by show CR=_;rw[HC2.out,if_neg hlh]
      clear HC2;have hx3:=lt_of_block E3;have hw3:=lt_of_block V3;obtain⟨arr,ha1,ha2,ha3⟩:=KT3;have KT3:KT w3 (Nf2 wb kb) kb cells.length s2.2:=⟨arr,ha1,ha2,ha3⟩
      have hcell:=fun (v:Value) (hv:arr[i]?=some v)=>(cell_of_row w3 kb i arr _ _ ha1).trans hv;have PUT:∀ {w4:World} (y:Ex),Below w3.heap.size w3 w4->sameE y x=true->CR=some ((s2.1,fun j=>if j=i then some y else s2.2 j),k')->Hid (PostKD w wb kb (.slice (some ⟨cb,coff,none⟩) cells.length capc) cells.length CR (.returned (.int .i64 k')) ((w4.alloc (.cells #[.int .i64 x.k,.int .i64 x.n,stv x.nm,.slice ak x.kids.len ck] 34)).setCell ⟨kb,i,none⟩ (.slice (some ⟨w4.heap.size,0,none⟩) 1 1))):=by
       intro w4 y b4 hsm hcr;rw[hcr];have hk4:=Nat.lt_of_lt_of_le hk3 b4.size;have hw4:=Nat.lt_of_lt_of_le hw3 b4.size;have V4:=(b4.block _ hw3).trans V3;have KT4:=KT3.mono (b4.block _ hk3) (fun i _ hl=>b4.block i hl) b4.size;refine⟨⟨k',rfl,fun s k h=>by injection h with h;injection h⟩,⟨?_,hs2,KT4.put i y x ak ck hsm hfx (SK3.belowP b4) hw4⟩,((KK3.trans (Kp.ofBelow b4)).alloc _).set _ _ (.inr (.inr rfl))⟩;exact(heap_setCell_other _ _ _ _ (by show wb≠kb;exact hne)).trans ((Below.heap_alloc w4 _ wb hw4).trans V4)
      rcases ha3 i hil with ⟨ht,hai⟩|⟨x',y',g,cg,ht,hsm,hai,SY,hfy⟩
      ·have e1:=hcell _ hai;have HP:=fun m=>PUT (w4:=w3.drewN m) x ⟨rfl,rfl,rfl,Nat.le_refl _,fun _ _=>rfl⟩ (sameE_self x) (by rw[HC3.out,ht]);clear PUT HC3 KT3 KK3 SK3 hcell ha3 ht;go_wp2_with fail
       go_quiet (fail)
       have HP:=HP nq;have bd4:Below w3.heap.size w3 (w3.drewN nq):=⟨rfl,rfl,rfl,Nat.le_refl _,fun _ _=>rfl⟩
       have E4:=(bd4.block _ hx3).trans E3;have V4:=(bd4.block _ hw3).trans V3;have Y0:=(bd4.cell (p:=⟨gb,off,none⟩) hgl3).trans y0;have Y1:=(bd4.cell (p:=⟨gb,off+1,none⟩) hgl3).trans y1;have Y2:=(bd4.cell (p:=⟨gb,off+2,none⟩) hgl3).trans y2;have Y3:=(bd4.cell (p:=⟨gb,off+3,none⟩) hgl3).trans y3;have KF:=frozen_of_row (w3.drewN nq) kb i arr _ ((bd4.block _ hk3).trans ha1);have KC:=(bd4.cell (p:=⟨kb,i,none⟩) hk3).trans e1;have hkl4:=Nat.lt_of_lt_of_le hk3 bd4.size;have hgl4:=Nat.lt_of_lt_of_le hgl3 bd4.size;clear p0 p1 p2 p3 pf q0 q1 q2 q3 qf y0 y1 y2 y3 bd4 E3 V3 hai e1 ha1;generalize w3.drewN nq=w4 at *;obtain⟨p0,p1,p2,p3,pf⟩:=box4 E4;obtain⟨q0,q1,q2,q3,qf⟩:=box4 V4;have hbx4:=lt_of_block E4;have hwb4:=lt_of_block V4;clear E4 V4;have hcw:∀ (g j:Nat),g≠kb->g<w4.heap.size->(((w4.setCell ⟨kb,i,none⟩ (.slice (some ⟨w4.heap.size,0,none⟩) 1 1)).alloc (.cells #[.int .i64 x.k,.int .i64 x.n,stv x.nm,.slice ak x.kids.len ck] 34)).drew).cell? ⟨g,j,none⟩=w4.cell? ⟨g,j,none⟩:=fun g j h1 h2=>World.cell?_of_block (a:=⟨g,j,none⟩) ((Below.heap_alloc (w4.setCell ⟨kb,i,none⟩ (.slice (some ⟨w4.heap.size,0,none⟩) 1 1)) (.cells #[.int .i64 x.k,.int .i64 x.n,stv x.nm,.slice ak x.kids.len ck] 34) g (by simpa using h2)).trans (heap_setCell_other w4 ⟨kb,i,none⟩ g _ h1));have KA5:(((w4.setCell ⟨kb,i,none⟩ (.slice (some ⟨w4.heap.size,0,none⟩) 1 1)).alloc (.cells #[.int .i64 x.k,.int .i64 x.n,stv x.nm,.slice ak x.kids.len ck] 34)).drew).cell? ⟨bx,1,none⟩=some (.int .i64 (i:Nat))/\(((w4.setCell ⟨kb,i,none⟩ (.slice (some ⟨w4.heap.size,0,none⟩) 1 1)).alloc (.cells #[.int .i64 x.k,.int .i64 x.n,stv x.nm,.slice ak x.kids.len ck] 34)).drew).cell? ⟨bx,3,none⟩=some (.slice (some ⟨gb,off,none⟩) 1 cap)/\(((w4.setCell ⟨kb,i,none⟩ (.slice (some ⟨w4.heap.size,0,none⟩) 1 1)).alloc (.cells #[.int .i64 x.k,.int .i64 x.n,stv x.nm,.slice ak x.kids.len ck] 34)).drew).cell? ⟨wb,2,none⟩=some (.slice (some ⟨kb,0,none⟩) cells.length cells.length)/\(((w4.setCell ⟨kb,i,none⟩ (.slice (some ⟨w4.heap.size,0,none⟩) 1 1)).alloc (.cells #[.int .i64 x.k,.int .i64 x.n,stv x.nm,.slice ak x.kids.len ck] 34)).drew).cell? ⟨gb,off,none⟩=some (.int .i64 x.k)/\(((w4.setCell ⟨kb,i,none⟩ (.slice (some ⟨w4.heap.size,0,none⟩) 1 1)).alloc (.cells #[.int .i64 x.k,.int .i64 x.n,stv x.nm,.slice ak x.kids.len ck] 34)).drew).cell? ⟨gb,off+1,none⟩=some (.int .i64 x.n)/\(((w4.setCell ⟨kb,i,none⟩ (.slice (some ⟨w4.heap.size,0,none⟩) 1 1)).alloc (.cells #[.int .i64 x.k,.int .i64 x.n,stv x.nm,.slice ak x.kids.len ck] 34)).drew).cell? ⟨gb,off+2,none⟩=some (stv x.nm)/\(((w4.setCell ⟨kb,i,none⟩ (.slice (some ⟨w4.heap.size,0,none⟩) 1 1)).alloc (.cells #[.int .i64 x.k,.int .i64 x.n,stv x.nm,.slice ak x.kids.len ck] 34)).drew).cell? ⟨gb,off+3,none⟩=some (.slice ak x.kids.len ck):=⟨(hcw _ _ hb2 hbx4).trans p1,(hcw _ _ hb2 hbx4).trans p3,(hcw _ _ hne hwb4).trans q2,(hcw _ _ hgp.2 hgl4).trans Y0,(hcw _ _ hgp.2 hgl4).trans Y1,(hcw _ _ hgp.2 hgl4).trans Y2,(hcw _ _ hgp.2 hgl4).trans Y3⟩
       have HP2:Hid (PostKD w wb kb (.slice (some ⟨cb,coff,none⟩) cells.length capc) cells.length CR (.returned (.int .i64 k')) (((w4.setCell ⟨kb,i,none⟩ (.slice (some ⟨w4.heap.size,0,none⟩) 1 1)).alloc (.cells #[.int .i64 x.k,.int .i64 x.n,stv x.nm,.slice ak x.kids.len ck] 34)).drew)):=by
        have h5:=HP.out;rw[World.setCell_alloc_past _ _ _ _ hkl4] at h5;exact⟨h5.1,h5.2.1.below ⟨rfl,rfl,rfl,Nat.le_refl _,fun _ _=>rfl⟩,h5.2.2.trans (Kp.ofBelow ⟨rfl,rfl,rfl,Nat.le_refl _,fun _ _=>rfl⟩)⟩
       clear HP hcw;go_wp2_with fail;go_region_held3 (fun wx=>wx.cell? ⟨bx,1,none⟩=some (.int .i64 (i:Nat))/\wx.cell? ⟨bx,3,none⟩=some (.slice (some ⟨gb,off,none⟩) 1 cap)/\wx.cell? ⟨wb,2,none⟩=some (.slice (some ⟨kb,0,none⟩) cells.length cells.length)/\wx.cell? ⟨gb,off,none⟩=some (.int .i64 x.k)/\wx.cell? ⟨gb,off+1,none⟩=some (.int .i64 x.n)/\wx.cell? ⟨gb,off+2,none⟩=some (stv x.nm)/\wx.cell? ⟨gb,off+3,none⟩=some (.slice ak x.kids.len ck)) (first|exact KA5|go_keep) (fail);clear KA5;go_wp2;exact bodyPost_ret (v:=.int .i64 k') (by simp[results,Tryz.results154,go_sem]) rfl HP2.out
      ·have e1:=hcell _ hai;obtain⟨az,cz,hzl,hzp,z0,z1,z2,z3,SZ⟩:∃az,∃cz,g<w3.heap.size/\Nf2 wb kb g/\w3.cell? ⟨g,0,none⟩=some (.int .i64 y'.k)/\w3.cell? ⟨g,1,none⟩=some (.int .i64 y'.n)/\w3.cell? ⟨g,2,none⟩=some (stv y'.nm)/\w3.cell? ⟨g,3,none⟩=some (.slice az y'.kids.len cz)/\SlN w3 (Nf2 wb kb) y'.kids az:=by
        obtain⟨gb',off',az,cz,hao,hgl,hgp,z0,z1,z2,z3,SZ⟩:=SlN.kidQ (x:=.nil) (r:=.nil) (ks:=y'.kids) (k:=y'.k) (n:=y'.n) (nm:=y'.nm) (a:=y'.a) SY;injection hao with hao
        injection hao with h1 h2
        subst h1;subst h2;exact⟨az,cz,hgl,hgp,z0,z1,z2,z3,SZ⟩
       have bdT:Below w3.heap.size w3 w3.drew:=⟨rfl,rfl,rfl,Nat.le_refl _,fun _ _=>rfl⟩
       have c6:=samenode_ok (y'.kids.size+1) y' x az ak cz ck w3.drew (by omega) hfy.len hfy.sh hfx.len hfx.sh (SZ.all.below bdT) (SK3.all.below bdT);rw[exN_out,exN_out,sameE_tr x hsm] at c6;have HC4:Hid (CR=if sameE x' x=true then some (s2,k') else none):=by show CR=_;rw[HC3.out,ht]
       have hfun:Hid ((fun j=>if j=i then some x' else s2.2 j)=s2.2):=by
        show _=_;funext j;by_cases hj:j=i
        ·rw[if_pos hj,hj,ht]
        ·rw[if_neg hj]
       obtain⟨sm,hsmm⟩:∃sm,sm=sameE x' x:=⟨_,rfl⟩
       rw[<-hsmm] at c6;have HSM:Hid (sameE x' x=sm):=hsmm.symm;clear hsmm HC3 SY SZ hsm ht;have KA0:w3.drew.cell? ⟨bx,1,none⟩=some (.int .i64 (i:Nat))/\w3.drew.cell? ⟨bx,3,none⟩=some (.slice (some ⟨gb,off,none⟩) 1 cap)/\w3.drew.cell? ⟨wb,2,none⟩=some (.slice (some ⟨kb,0,none⟩) cells.length cells.length)/\w3.drew.cell? ⟨kb,i,none⟩=some (.slice (some ⟨g,0,none⟩) 1 cg)/\w3.drew.cell? ⟨g,0,none⟩=some (.int .i64 y'.k)/\w3.drew.cell? ⟨g,1,none⟩=some (.int .i64 y'.n)/\w3.drew.cell? ⟨g,2,none⟩=some (stv y'.nm)/\w3.drew.cell? ⟨g,3,none⟩=some (.slice az y'.kids.len cz)/\w3.drew.cell? ⟨gb,off,none⟩=some (.int .i64 x.k)/\w3.drew.cell? ⟨gb,off+1,none⟩=some (.int .i64 x.n)/\w3.drew.cell? ⟨gb,off+2,none⟩=some (stv x.nm)/\w3.drew.cell? ⟨gb,off+3,none⟩=some (.slice ak x.kids.len ck):=⟨p1,p3,q2,e1,z0,z1,z2,z3,y0,y1,y2,y3⟩
       go_wp2_with fail;go_region_held3 (fun wx=>wx.cell? ⟨bx,1,none⟩=some (.int .i64 (i:Nat))/\wx.cell? ⟨bx,3,none⟩=some (.slice (some ⟨gb,off,none⟩) 1 cap)/\wx.cell? ⟨wb,2,none⟩=some (.slice (some ⟨kb,0,none⟩) cells.length cells.length)/\wx.cell? ⟨kb,i,none⟩=some (.slice (some ⟨g,0,none⟩) 1 cg)/\wx.cell? ⟨g,0,none⟩=some (.int .i64 y'.k)/\wx.cell? ⟨g,1,none⟩=some (.int .i64 y'.n)/\wx.cell? ⟨g,2,none⟩=some (stv y'.nm)/\wx.cell? ⟨g,3,none⟩=some (.slice az y'.kids.len cz)/\wx.cell? ⟨gb,off,none⟩=some (.int .i64 x.k)/\wx.cell? ⟨gb,off+1,none⟩=some (.int .i64 x.n)/\wx.cell? ⟨gb,off+2,none⟩=some (stv x.nm)/\wx.cell? ⟨gb,off+3,none⟩=some (.slice ak x.kids.len ck))
        (first|exact KA|exact KA0|go_keep)
        (first
         | (go_at_call 42;refine c6.mono ?_;rintro z w4 ⟨rfl,B4⟩;have KA:w4.cell? ⟨bx,1,none⟩=some (.int .i64 (i:Nat))/\w4.cell? ⟨bx,3,none⟩=some (.slice (some ⟨gb,off,none⟩) 1 cap)/\w4.cell? ⟨wb,2,none⟩=some (.slice (some ⟨kb,0,none⟩) cells.length cells.length)/\w4.cell? ⟨kb,i,none⟩=some (.slice (some ⟨g,0,none⟩) 1 cg)/\w4.cell? ⟨g,0,none⟩=some (.int .i64 y'.k)/\w4.cell? ⟨g,1,none⟩=some (.int .i64 y'.n)/\w4.cell? ⟨g,2,none⟩=some (stv y'.nm)/\w4.cell? ⟨g,3,none⟩=some (.slice az y'.kids.len cz)/\w4.cell? ⟨gb,off,none⟩=some (.int .i64 x.k)/\w4.cell? ⟨gb,off+1,none⟩=some (.int .i64 x.n)/\w4.cell? ⟨gb,off+2,none⟩=some (stv x.nm)/\w4.cell? ⟨gb,off+3,none⟩=some (.slice ak x.kids.len ck):=⟨(B4.cell (p:=⟨bx,1,none⟩) hx3).trans p1,(B4.cell (p:=⟨bx,3,none⟩) hx3).trans p3,(B4.cell (p:=⟨wb,2,none⟩) hw3).trans q2,(B4.cell (p:=⟨kb,i,none⟩) hk3).trans e1,(B4.cell (p:=⟨g,0,none⟩) hzl).trans z0,(B4.cell (p:=⟨g,1,none⟩) hzl).trans z1,(B4.cell (p:=⟨g,2,none⟩) hzl).trans z2,(B4.cell (p:=⟨g,3,none⟩) hzl).trans z3,(B4.cell (p:=⟨gb,off,none⟩) hgl3).trans y0,(B4.cell (p:=⟨gb,off+1,none⟩) hgl3).trans y1,(B4.cell (p:=⟨gb,off+2,none⟩) hgl3).trans y2,(B4.cell (p:=⟨gb,off+3,none⟩) hgl3).trans y3⟩))
       have bd4:Below w3.heap.size w3 w4:=bdT.trans B4;have E4:=(bd4.block _ hx3).trans E3;have V4:=(bd4.block _ hw3).trans V3;have KF:=frozen_of_row w4 kb i arr _ ((bd4.block _ hk3).trans ha1);obtain⟨-,-,-,KC,-,-,-,-,Y0,Y1,Y2,Y3⟩:=KA;have hkl4:=Nat.lt_of_lt_of_le hk3 bd4.size;have hgl4:=Nat.lt_of_lt_of_le hgl3 bd4.size;have hbx4:=lt_of_block E4;have hwb4:=lt_of_block V4;cases sm with
       | false =>
        have HR:Hid (PostKD w wb kb (.slice (some ⟨cb,coff,none⟩) cells.length capc) cells.length CR (.returned (.int .i64 0)) (w4.setCell ⟨wb,3,none⟩ (.bool false))):=by
         rw[HC4.out,HSM.out,if_neg (by decide)];exact⟨⟨0,rfl,fun s k h=>by cases h⟩,⟨by simpa using hkl4,_,_,(set4d V4 (.bool false)).2⟩,(KK3.trans (Kp.ofBelow bd4)).set _ _ (.inr (.inl rfl))⟩
        clear c6 PUT HC4 HSM hfun KT3 KK3 SK3 p0 p1 p2 p3 pf q0 q1 q2 q3 qf y0 y1 y2 y3 z0 z1 z2 z3 e1 ha1 E3 V3 B4 bd4 bdT hcell ha3;obtain⟨q0,q1,q2,q3,qf⟩:=box4 V4;clear E4 V4;go_wp2;exact bodyPost_ret (v:=.int .i64 0) (by simp[results,Tryz.results154,go_sem]) rfl HR.out
       | true =>
        have HP:=PUT x' bd4 HSM.out (by rw[HC4.out,HSM.out,if_pos rfl,hfun.out]);clear c6 PUT HC4 HSM hfun KT3 KK3 SK3 p0 p1 p2 p3 pf q0 q1 q2 q3 qf y0 y1 y2 y3 z0 z1 z2 z3 e1 ha1 E3 V3 B4 bd4 bdT hcell ha3;obtain⟨p0,p1,p2,p3,pf⟩:=box4 E4;obtain⟨q0,q1,q2,q3,qf⟩:=box4 V4;clear E4 V4;have hcw:∀ (g j:Nat),g≠kb->g<w4.heap.size->(((w4.setCell ⟨kb,i,none⟩ (.slice (some ⟨w4.heap.size,0,none⟩) 1 1)).alloc (.cells #[.int .i64 x.k,.int .i64 x.n,stv x.nm,.slice ak x.kids.len ck] 34)).drew).cell? ⟨g,j,none⟩=w4.cell? ⟨g,j,none⟩:=fun g j h1 h2=>World.cell?_of_block (a:=⟨g,j,none⟩) ((Below.heap_alloc (w4.setCell ⟨kb,i,none⟩ (.slice (some ⟨w4.heap.size,0,none⟩) 1 1)) (.cells #[.int .i64 x.k,.int .i64 x.n,stv x.nm,.slice ak x.kids.len ck] 34) g (by simpa using h2)).trans (heap_setCell_other w4 ⟨kb,i,none⟩ g _ h1));have KA5:(((w4.setCell ⟨kb,i,none⟩ (.slice (some ⟨w4.heap.size,0,none⟩) 1 1)).alloc (.cells #[.int .i64 x.k,.int .i64 x.n,stv x.nm,.slice ak x.kids.len ck] 34)).drew).cell? ⟨bx,1,none⟩=some (.int .i64 (i:Nat))/\(((w4.setCell ⟨kb,i,none⟩ (.slice (some ⟨w4.heap.size,0,none⟩) 1 1)).alloc (.cells #[.int .i64 x.k,.int .i64 x.n,stv x.nm,.slice ak x.kids.len ck] 34)).drew).cell? ⟨bx,3,none⟩=some (.slice (some ⟨gb,off,none⟩) 1 cap)/\(((w4.setCell ⟨kb,i,none⟩ (.slice (some ⟨w4.heap.size,0,none⟩) 1 1)).alloc (.cells #[.int .i64 x.k,.int .i64 x.n,stv x.nm,.slice ak x.kids.len ck] 34)).drew).cell? ⟨wb,2,none⟩=some (.slice (some ⟨kb,0,none⟩) cells.length cells.length)/\(((w4.setCell ⟨kb,i,none⟩ (.slice (some ⟨w4.heap.size,0,none⟩) 1 1)).alloc (.cells #[.int .i64 x.k,.int .i64 x.n,stv x.nm,.slice ak x.kids.len ck] 34)).drew).cell? ⟨gb,off,none⟩=some (.int .i64 x.k)/\(((w4.setCell ⟨kb,i,none⟩ (.slice (some ⟨w4.heap.size,0,none⟩) 1 1)).alloc (.cells #[.int .i64 x.k,.int .i64 x.n,stv x.nm,.slice ak x.kids.len ck] 34)).drew).cell? ⟨gb,off+1,none⟩=some (.int .i64 x.n)/\(((w4.setCell ⟨kb,i,none⟩ (.slice (some ⟨w4.heap.size,0,none⟩) 1 1)).alloc (.cells #[.int .i64 x.k,.int .i64 x.n,stv x.nm,.slice ak x.kids.len ck] 34)).drew).cell? ⟨gb,off+2,none⟩=some (stv x.nm)/\(((w4.setCell ⟨kb,i,none⟩ (.slice (some ⟨w4.heap.size,0,none⟩) 1 1)).alloc (.cells #[.int .i64 x.k,.int .i64 x.n,stv x.nm,.slice ak x.kids.len ck] 34)).drew).cell? ⟨gb,off+3,none⟩=some (.slice ak x.kids.len ck):=⟨(hcw _ _ hb2 hbx4).trans p1,(hcw _ _ hb2 hbx4).trans p3,(hcw _ _ hne hwb4).trans q2,(hcw _ _ hgp.2 hgl4).trans Y0,(hcw _ _ hgp.2 hgl4).trans Y1,(hcw _ _ hgp.2 hgl4).trans Y2,(hcw _ _ hgp.2 hgl4).trans Y3⟩
        have HP2:Hid (PostKD w wb kb (.slice (some ⟨cb,coff,none⟩) cells.length capc) cells.length CR (.returned (.int .i64 k')) (((w4.setCell ⟨kb,i,none⟩ (.slice (some ⟨w4.heap.size,0,none⟩) 1 1)).alloc (.cells #[.int .i64 x.k,.int .i64 x.n,stv x.nm,.slice ak x.kids.len ck] 34)).drew)):=by
         have h5:=HP.out;rw[World.setCell_alloc_past _ _ _ _ hkl4] at h5;exact⟨h5.1,h5.2.1.below ⟨rfl,rfl,rfl,Nat.le_refl _,fun _ _=>rfl⟩,h5.2.2.trans (Kp.ofBelow ⟨rfl,rfl,rfl,Nat.le_refl _,fun _ _=>rfl⟩)⟩
        clear HP hcw;go_wp2_with fail;go_region_held3 (fun wx=>wx.cell? ⟨bx,1,none⟩=some (.int .i64 (i:Nat))/\wx.cell? ⟨bx,3,none⟩=some (.slice (some ⟨gb,off,none⟩) 1 cap)/\wx.cell? ⟨wb,2,none⟩=some (.slice (some ⟨kb,0,none⟩) cells.length cells.length)/\wx.cell? ⟨gb,off,none⟩=some (.int .i64 x.k)/\wx.cell? ⟨gb,off+1,none⟩=some (.int .i64 x.n)/\wx.cell? ⟨gb,off+2,none⟩=some (stv x.nm)/\wx.cell? ⟨gb,off+3,none⟩=some (.slice ak x.kids.len ck)) (first|exact KA5|go_keep) (fail);clear KA5;go_wp2;exact bodyPost_ret (v:=.int .i64 k') (by simp[results,Tryz.results154,go_sem]) rfl HP2.out
end Go.Proofs.YtaihhnlfcndecaaGreatDoor
