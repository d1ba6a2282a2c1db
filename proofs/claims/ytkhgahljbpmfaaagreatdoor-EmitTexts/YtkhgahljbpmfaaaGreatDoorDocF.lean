import Derived.Test.YtkhgahljbpmfaaaGreatDoorEqW
set_option maxRecDepth 100000
set_option maxHeartbeats 8000000
namespace Go.Proofs.YtkhgahljbpmfaaaGreatDoor
open Option renaming none->GA,some->GB
open Nat renaming le_refl->GC,lt_of_lt_of_le->GM,add_zero->Hs,zero_add->Hx,zero_mul->IB,lt_or_ge->JJ
open Go.Proofs.Tryz renaming prog->GD,ntmps70->IZ,results176->I4,ntmps34->I7,func70->Ja,func34->Jg
open Go renaming World->GE,lt_of_block->GF,bodyPost_ret->GG,heap_alloc_new->GH,Value->GJ,heap_setCell_other->GP,Calls->GR,maxLen->GY,Addr->G1,cell_of_row->Hf,frozen_of_row->Ik
open List renaming getElem?_eq_getElem->GI,getD_eq_getElem?_getD->Hb,getElem?_eq_none->He,mem_of_getElem?->Is,drop_eq_getElem_cons->IK
open Go.RowKit renaming Below->GK,intOf->Hh
open Go.Lib renaming hid->GL
open Go.RowKit.Below renaming refl->GN,heap_alloc->GO
open Bool renaming and_eq_true->Ha
open Go.World renaming cell?_of_block->GS,frozen?->JP
open Exists renaming intro->G0
open Int renaming toNat_natCast->If
open Ne renaming symm->Jn
open Go.ChangeShapes Go.WideShapes Go.ChangeAt Go.RowKit
set_option linter.unusedVariables false
set_option linter.unusedSimpArgs false
theorem Bg (k n:Int)(nm:List UInt8)(a:Int)(ks:Fs)(ao:Option G1)(cap ar:Nat)(w:GE)(o:Nat->Nat)(rb:Nat)(p0 p1 p2 p3 p4:GJ)(lv:List Int)(s:Dp)(m:Nat)(kd:Nat)(v:(k=1/\kd=1)\/(k=2/\kd=2))(d:s.lg=false)(S:SnO w o ks ao)(t:s.sz m)(u:m+2<=100000000)(X:DX w o p4 lv)(h:DW w o rb p0 p1 p2 p3 p4 s) :
  GR GD 34 #[pt0 rb,exN ⟨k,n,nm,a,ks⟩ ao cap,.int .i64 ar] w (fD w o rb p0 p1 p2 p3 p4 (s.val n kd) (.tuple #[])):=by
 obtain⟨w1,c,g,b,A,p,j,x,f,z⟩:=gr #[.int .i64 k,.int .i64 n,stv nm,.slice ao ks.len cap] h X S;have l:=gp p;obtain⟨c0,c1,c2,c3⟩:=l.out _ _ (dQ.refl I17 w1 c);obtain⟨r,-⟩:=j.cl;have C:=dQ.refl I17 w1 c;clear p h X S;rw[dS];simp only;rw[d] at r;have i:=gN w1 c rb p0 p1 p2 p3 p4 s n kd m t u j;clear l j x f;rcases v with ⟨rfl,rfl⟩|⟨rfl,rfl⟩
 all_goals
  first|rw[show ((1:Nat):Int)=1 from rfl] at i|rw[show ((2:Nat):Int)=2 from rfl] at i
  go_enter Jg,I7;go_upto_region 1 with fail;rw[<-b,<-A.out];clear b;go_wp2_with fail;refine i.mono ?_;rintro e w2 ⟨rfl,q,B,y⟩;go_wp2
  go_end0
  exact⟨rfl,q,B,z.trans y⟩
theorem Ew (k n:Int)(nm:List UInt8)(a:Int)(ks:Fs)(ao:Option G1)(cap ar:Nat)(w:GE)(o:Nat->Nat)(rb:Nat)(p0 p1 p2 p3 p4:GJ)(lv:List Int)(s:Dp)(m:Nat)(F:k=3)(i:s.lg=false)(S:SnO w o ks ao)(j:s.sz m)(N:m+2<=100000000)(X:DX w o p4 lv)(h:DW w o rb p0 p1 p2 p3 p4 s) :
  GR GD 34 #[pt0 rb,exN ⟨k,n,nm,a,ks⟩ ao cap,.int .i64 ar] w (fD w o rb p0 p1 p2 p3 p4 (((s.kI n).puts 2 (s.cs.idxOf n) 0).grows 1) (.tuple #[])):=by
 obtain⟨w1,f,g,b,J,A,z,O,H,I⟩:=gr #[.int .i64 k,.int .i64 n,stv nm,.slice ao ks.len cap] h X S;have d:=gp A;obtain⟨c0,c1,c2,c3⟩:=d.out _ _ (dQ.refl I17 w1 f);obtain⟨E,-⟩:=z.cl;have G:=dQ.refl I17 w1 f;clear A h X S;rw[dS];simp only;rw[i] at E;subst F;go_enter Jg,I7;go_upto_region 1 with fail;rw[<-b,<-J.out];clear b;have y:=k_c w1 f rb p0 p1 p2 p3 p4 s n (by have:=j.c;omega) z;go_wp2_with fail;refine y.mono ?_;rintro e w2 ⟨rfl,D,M,u⟩;have q:=G.trans u;clear y u;clear c0 c1 c2 c3;obtain⟨c0,c1,c2,c3⟩:=d.out _ _ q;have x:=ez w2 D rb p0 p1 p2 p3 p4 (s.kI n) 2 (s.cs.idxOf n) 0 M;go_wp2_with fail;refine x.mono ?_;rintro e w3 ⟨rfl,C,L,t⟩;have p:=q.trans t;clear x t;clear c0 c1 c2 c3;obtain⟨c0,c1,c2,c3⟩:=d.out _ _ p;have v:=eK w3 C rb p0 p1 p2 p3 p4 ((s.kI n).puts 2 (s.cs.idxOf n) 0) (1) _ ((dV _ 2 (s.cs.idxOf n) 0).sz _ ((oS s n).sz m j)) (by omega) (by omega) L;go_wp2_with fail;refine v.mono ?_;rintro e w4 ⟨rfl,B,K,r⟩;have l:=p.trans r;clear v r;clear c0 c1 c2 c3;obtain⟨c0,c1,c2,c3⟩:=d.out _ _ l;go_wp2
 go_end0
 exact⟨rfl,B,K,I.trans l⟩
theorem EO (k n:Int)(nm:List UInt8)(a:Int)(ks:Fs)(ao:Option G1)(cap ar:Nat)(w:GE)(o:Nat->Nat)(rb:Nat)(p0 p1 p2 p3 p4:GJ)(lv:List Int)(s:Dp)(m:Nat)(B:k=5)(I:0<=n)(f:s.lg=false)(S:SnO w o ks ao)(A:s.sz m)(J:m+2<=100000000)(X:DX w o p4 lv)(h:DW w o rb p0 p1 p2 p3 p4 s) :
  GR GD 34 #[pt0 rb,exN ⟨k,n,nm,a,ks⟩ ao cap,.int .i64 ar] w (fD w o rb p0 p1 p2 p3 p4 ((s.puts 3 n.toNat 0).grows 1) (.tuple #[])):=by
 obtain⟨n0,d⟩:∃n0:Nat,(n0:Int)=n:=⟨n.toNat,by omega⟩;subst d;rw[If];obtain⟨w1,c,g,b,F,v,u,K,D,E⟩:=gr #[.int .i64 k,.int .i64 n0,stv nm,.slice ao ks.len cap] h X S;have i:=gp v;obtain⟨c0,c1,c2,c3⟩:=i.out _ _ (dQ.refl I17 w1 c);obtain⟨z,-⟩:=u.cl;have C:=dQ.refl I17 w1 c;clear v h X S;rw[dS];simp only;rw[f] at z;subst B;go_enter Jg,I7;go_upto_region 1 with fail;rw[<-b,<-F.out];clear b;have t:=ez w1 c rb p0 p1 p2 p3 p4 (s) 3 n0 0 u;go_wp2_with fail;refine t.mono ?_;rintro e w2 ⟨rfl,y,H,q⟩;have l:=C.trans q;clear t q;clear c0 c1 c2 c3;obtain⟨c0,c1,c2,c3⟩:=i.out _ _ l;have r:=eK w2 y rb p0 p1 p2 p3 p4 (s.puts 3 n0 0) (1) _ ((dV s 3 n0 0).sz m A) (by omega) (by omega) H;go_wp2_with fail;refine r.mono ?_;rintro e w3 ⟨rfl,x,G,p⟩;have j:=l.trans p;clear r p;clear c0 c1 c2 c3;obtain⟨c0,c1,c2,c3⟩:=i.out _ _ j;go_wp2
 go_end0
 exact⟨rfl,x,G,E.trans j⟩
theorem ze (k:Int)(b:6<=k/\k<=12)(w:GE):GR GD 67 #[.int .i64 k] w λe w'=>e=.returned (.tuple #[.int .i64 (jv k:Nat),.int .i64 (if k=6\/k=7 then 0 else 1)])/\w'=w:=by
 have a:k=6\/k=7\/k=8\/k=9\/k=10\/k=11\/k=12:=by omega
 rcases a with rfl|rfl|rfl|rfl|rfl|rfl|rfl
 all_goals
  go_enter Tryz.func67,Tryz.ntmps67;go_wp2;go_ret2;exact⟨rfl,rfl⟩
theorem lp (lv:List Int)(ks:Fs)(ar:Nat)(s:Dp):Dle (17*ks.size) s (fP (deF lv ks) ar s):=by
 obtain⟨-,c,b,a⟩:=oJ _ ks (me lv ks);exact(a ar s).le (by omega)
theorem EZ (K:Nat->Int)(nc N:Nat)(O:iz K nc N)(k n:Int)(nm:List UInt8)(a:Int)(ks:Fs)(ao:Option G1)(cap ar:Nat)(w:GE)(o:Nat->Nat)(rb:Nat)(p0 p1 p2 p3 p4:GJ)(lv:List Int)(s:Dp)(m:Nat)(H:6<=k/\k<=12)(hN:ks.size<=N)(G:okE nc ⟨k,n,nm,a,ks⟩)(d:skF K ks k 0)(z:lv.length=nc)(y:nc<=256)(D:ar+ks.size<=1000000)(v:ks.size<=100000)(S:SnO w o ks ao)(C:s.ks.length=nc)(F:s.sz m)(hm:m+(17*ks.size+16)<=100000000)(X:DX w o p4 lv)(h:DW w o rb p0 p1 p2 p3 p4 s)(B:s.lg=false) :
  GR GD 34 #[pt0 rb,exN ⟨k,n,nm,a,ks⟩ ao cap,.int .i64 ar] w (fD w o rb p0 p1 p2 p3 p4 (((fP (deF lv ks) ar s).puts (jv k) 0 0).grows (if k=6\/k=7 then 0 else -1)) (.tuple #[])):=by
 have i:k≠21:=by omega
 have b:=ze k H;obtain⟨q,x⟩:=exq (jv k);obtain⟨l,p⟩:∃l:Int,l=if k=6\/k=7 then 0 else 1:=⟨_,rfl⟩;have f:(if k=6\/k=7 then 0 else -1)=-l:=by rw[p];split<;>rfl
 have Z:0<=l/\l<=1:=by rw[p];split<;>omega
 rw[f,<-x];rw[<-x,<-p] at b;clear f p x;obtain⟨w1,t,g,c,HG,R,E,I,j,S0⟩:=gr #[.int .i64 k,.int .i64 n,stv nm,.slice ao ks.len cap] h X S;have M:=gp R;obtain⟨c0,c1,c2,c3⟩:=M.out _ _ (dQ.refl I17 w1 t);obtain⟨Y,-⟩:=E.cl;have J:=dQ.refl I17 w1 t;clear R h X S;rw[dS];simp only;rw[B] at Y;have r:=rj K nc N O k n nm a ks ao cap ar w1 t rb p0 p1 p2 p3 p4 lv s m hN G.2 i d z y D v (j.stepO J dZ) C F (by omega) (I.step J dZ) E;rw[dS] at r;simp only at r;have T:=((lp lv ks ar s).sz m F);generalize fP (deF lv ks) ar s=A at *;clear d G O j I E;have hc:k=6\/k=7\/k=8\/k=9\/k=10\/k=11\/k=12:=by omega
 clear H i;rcases hc with rfl|rfl|rfl|rfl|rfl|rfl|rfl
 all_goals
  go_enter Jg,I7;go_upto_region 1 with fail;rw[<-c,<-HG.out];clear c;go_wp2_with fail;refine r.mono ?_;rintro e w2 ⟨rfl,W,E2,L⟩;clear r c0 c1 c2 c3;obtain⟨c0,c1,c2,c3⟩:=M.out _ _ L;have Q:=b w2;go_wp2_with fail;refine Q.mono ?_;rintro e w3 ⟨rfl,u⟩;subst u;clear Q b;have P:=ez w3 W rb p0 p1 p2 p3 p4 A q 0 0 E2;go_wp2_with fail;refine P.mono ?_;rintro e w4 ⟨rfl,V,E4,S4⟩;clear P c0 c1 c2 c3;have H4:=eK w4 V rb p0 p1 p2 p3 p4 _ (-l) _ ((dV A q 0 0).sz _ T) (by omega) (by omega) E4;go_wp2_with fail;refine H4.mono ?_;rintro e w5 ⟨rfl,U,E5,S5⟩;go_wp2
  go_end0
  exact⟨rfl,U,E5,((S0.trans L).trans S4).trans S5⟩
theorem DY (K:Nat->Int)(nc N:Nat)(G:iz K nc N)(k n:Int)(nm:List UInt8)(a:Int)(ks:Fs)(ao:Option G1)(cap ar:Nat)(w:GE)(o:Nat->Nat)(rb:Nat)(p0 p1 p2 p3 p4:GJ)(lv:List Int)(s:Dp)(m:Nat)(R:k=20)(hn:0<=n)(T:ks.size<=N)(C:okE nc ⟨k,n,nm,a,ks⟩)(c:skF K ks k 0)(r:lv.length=nc)(p:nc<=256)(v:ar+ks.size<=1000000)(l:ks.size<=100000)(S:SnO w o ks ao)(u:s.ks.length=nc)(B:s.sz m)(hm:m+(17*ks.size+16)<=100000000)(X:DX w o p4 lv)(h:DW w o rb p0 p1 p2 p3 p4 s)(t:s.lg=false) :
  GR GD 34 #[pt0 rb,exN ⟨k,n,nm,a,ks⟩ ao cap,.int .i64 ar] w (fD w o rb p0 p1 p2 p3 p4 (((fP (deF lv ks) ar s).puts 16 n.toNat 0).grows (1-(ks.len:Int))) (.tuple #[])):=by
 have d:k≠21:=by omega
 obtain⟨n0,q⟩:∃n0:Nat,(n0:Int)=n:=⟨n.toNat,by omega⟩;subst q;rw[If];obtain⟨w1,j,g,b,W,I,z,D,f,V⟩:=gr #[.int .i64 k,.int .i64 n0,stv nm,.slice ao ks.len cap] h X S;have y:=gp I;obtain⟨c0,c1,c2,c3⟩:=y.out _ _ (dQ.refl I17 w1 j);obtain⟨P,-⟩:=z.cl;have E:=dQ.refl I17 w1 j;clear I h X S;rw[dS];simp only;rw[t] at P;have i:=rj K nc N G k n0 nm a ks ao cap ar w1 j rb p0 p1 p2 p3 p4 lv s m T C.2 d c r p v l (f.stepO E dZ) u B (by omega) (D.step E dZ) z;rw[dS] at i;simp only at i;have J:=((lp lv ks ar s).sz m B);have Q:=iZ ks;generalize fP (deF lv ks) ar s=A at *;generalize ks.len=le at *;clear c C G f D z d;subst R;go_enter Jg,I7;go_upto_region 1 with fail;rw[<-b,<-W.out];clear b;go_wp2_with fail;refine i.mono ?_;rintro e w2 ⟨rfl,O,E2,x⟩;clear i c0 c1 c2 c3;obtain⟨c0,c1,c2,c3⟩:=y.out _ _ x;have H:=ez w2 O rb p0 p1 p2 p3 p4 A 16 n0 0 E2;go_wp2_with fail;refine H.mono ?_;rintro e w4 ⟨rfl,M,E4,F⟩;clear H c0 c1 c2 c3;obtain⟨c0,c1,c2,c3⟩:=y.out _ _ (x.trans F);have Y:=eK w4 M rb p0 p1 p2 p3 p4 _ (1-(le:Int)) _ ((dV A 16 n0 0).sz _ J) (by omega) (by omega) E4;go_wp2_with fail;refine Y.mono ?_;rintro e w5 ⟨rfl,L,Z,U⟩;go_wp2
 go_end0
 exact⟨rfl,L,Z,((V.trans x).trans F).trans U⟩
theorem Ei (K:Nat->Int)(nc N:Nat)(HP:iz K nc N)(k n:Int)(nm:List UInt8)(a:Int)(ks:Fs)(ao:Option G1)(cap ar:Nat)(w:GE)(o:Nat->Nat)(rb:Nat)(p0 p1 p2 p3 p4:GJ)(lv:List Int)(s:Dp)(m:Nat)(hk:13<=k/\k<=16)(hN:ks.size<=N)(Z:okE nc ⟨k,n,nm,a,ks⟩)(q:skF K ks k 0)(ac:lv.length=nc)(ab:nc<=256)(af:ar+ks.size<=1000000)(aa:ks.size<=100000)(S:SnO w o ks ao)(ad:s.ks.length=nc)(hz:s.sz m)(hm:m+(17*ks.size+16)<=100000000)(X:DX w o p4 lv)(h:DW w o rb p0 p1 p2 p3 p4 s) :
  GR GD 68 #[pt0 rb,exN ⟨k,n,nm,a,ks⟩ ao cap,.int .i64 ar] w (fD w o rb p0 p1 p2 p3 p4 ((wW k (kdF ks) (fP (deF lv ks) ar s)).grows (-1)) (.tuple #[])):=by
 have z:k≠21:=by omega
 have P:ks.len=2:=(pe Z.1.1).2.1 (by simp only;omega) (by simp only;omega);obtain⟨x,y,f⟩:=iv P;obtain⟨w1,W,g,c,HG,B1,E1,X1,B,S0⟩:=gr #[.int .i64 k,.int .i64 n,stv nm,.slice ao ks.len cap] h X S;have r:=gp B1;obtain⟨c0,c1,c2,c3⟩:=r.out _ _ (dQ.refl I17 w1 W);obtain⟨l1,-⟩:=E1.cl;have T1:=dQ.refl I17 w1 W;clear B1 h X S;rw[dS];simp only;have p:=rj K nc N HP k n nm a ks ao cap ar w1 W rb p0 p1 p2 p3 p4 lv s m hN Z.2 z q ac ab af aa (B.stepO T1 dZ) ad hz (by omega) (X1.step T1 dZ) E1;rw[dS] at p;simp only at p;have zA:=((lp lv ks ar s).sz m hz);have L:=(vG k (kdF ks) (fP (deF lv ks) ar s)).sz _ zA;generalize fP (deF lv ks) ar s=A at *;have j:=B;rw[f] at j;obtain⟨b,off,ak,ck,ag,NN,Sy,NK⟩:=ic (x:=.nil) j 0 rfl;have Q:(kdF ks).getD 0 0=kdE x:=by rw[f];rfl
 have Y:okE nc x/\x.kids.size<N+1:=⟨by have:=Z.2;simp only at this;rw[f] at this;exact(eo this).1,by rw[f,eC] at hN;omega⟩;have O:skE K x:=by rw[f] at q;exact kX z q
 have ae:=lK Y.1;have U:∀ w' o',dQ I17 w1 W w' o'->_:=λw' o' T=>wt K nc (N+1) x ak ck w' Y.2 Y.1 O (Sy.stepO T dZ).all;obtain⟨M,v⟩:∃M:Nat,(M:Int)=kdE x:=⟨(kdE x).toNat,by omega⟩;have R:((kdF ks).getD 0 0).toNat=M:=by rw[Q,<-v,If]
 unfold wW at L ⊢;rw[R] at L ⊢;rw[<-v] at U;have hc:k=13\/k=14\/k=15\/k=16:=by omega
 subst ag;rw[P] at c p r c3 ⊢;clear hk z Q R v ae Y O q Z HP B X1 E1 f j Sy NN;rcases hc with rfl|rfl|rfl|rfl
 ·go_enter Tryz.func68,Tryz.ntmps68;go_upto_region 1 with fail;rw[<-c,<-HG.out];clear c;go_wp2_with fail;refine p.mono ?_;rintro e w2 ⟨rfl,i,J,d⟩;clear p c0 c1 c2 c3;obtain⟨c0,c1,c2,c3⟩:=r.out _ _ d;obtain⟨x0,x1,x2,x3⟩:Nd4 w2 b off x ak ck:=NK d dZ;have F:=U _ _ d;rw[dS] at F;go_wp2_with fail;refine F.mono ?_;rintro e w3 ⟨rfl,V⟩;have E3:=J.step (dQ.ofBelow (I:=λ_=>False) i V) noF;have S3:=d.trans (dQ.ofBelow (I:=I17) i V);clear F U c0 c1 c2 c3 x0 x1 x2 x3 r;have l:=ez w3 i rb p0 p1 p2 p3 p4 A 11 0 M E3;go_wp2_with fail;refine l.mono ?_;rintro e w4 ⟨rfl,u,H,D⟩;clear l;have E:=eK w4 u rb p0 p1 p2 p3 p4 _ (-1) _ L (by omega) (by omega) H;go_wp2_with fail;refine E.mono ?_;rintro e w5 ⟨rfl,t,G,C⟩;go_wp2
  go_end0
  exact⟨rfl,t,G,((S0.trans S3).trans D).trans C⟩
 ·go_enter Tryz.func68,Tryz.ntmps68;go_upto_region 1 with fail;rw[<-c,<-HG.out];clear c;go_wp2_with fail;refine p.mono ?_;rintro e w2 ⟨rfl,i,J,d⟩;clear p c0 c1 c2 c3;obtain⟨c0,c1,c2,c3⟩:=r.out _ _ d;obtain⟨x0,x1,x2,x3⟩:Nd4 w2 b off x ak ck:=NK d dZ;have F:=U _ _ d;rw[dS] at F;go_wp2_with fail;refine F.mono ?_;rintro e w3 ⟨rfl,V⟩;have E3:=J.step (dQ.ofBelow (I:=λ_=>False) i V) noF;have S3:=d.trans (dQ.ofBelow (I:=I17) i V);clear F U c0 c1 c2 c3 x0 x1 x2 x3 r;have l:=ez w3 i rb p0 p1 p2 p3 p4 A 11 0 M E3;go_wp2_with fail;refine l.mono ?_;rintro e w4 ⟨rfl,u,H,D⟩;clear l;have H5:=ez w4 u rb p0 p1 p2 p3 p4 _ 5 0 0 H;go_wp2_with fail;refine H5.mono ?_;rintro e w6 ⟨rfl,o6,E6,S6⟩;clear H5;have E:=eK w6 o6 rb p0 p1 p2 p3 p4 _ (-1) _ L (by omega) (by omega) E6;go_wp2_with fail;refine E.mono ?_;rintro e w5 ⟨rfl,t,G,C⟩;go_wp2
  go_end0
  exact⟨rfl,t,G,(((S0.trans S3).trans D).trans S6).trans C⟩
 ·go_enter Tryz.func68,Tryz.ntmps68;go_upto_region 1 with fail;rw[<-c,<-HG.out];clear c;go_wp2_with fail;refine p.mono ?_;rintro e w2 ⟨rfl,i,J,d⟩;clear p c0 c1 c2 c3;obtain⟨c0,c1,c2,c3⟩:=r.out _ _ d;have l:=ez w2 i rb p0 p1 p2 p3 p4 A 12 0 0 J;go_wp2_with fail;refine l.mono ?_;rintro e w4 ⟨rfl,u,H,D⟩;clear l;have E:=eK w4 u rb p0 p1 p2 p3 p4 _ (-1) _ L (by omega) (by omega) H;go_wp2_with fail;refine E.mono ?_;rintro e w5 ⟨rfl,t,G,C⟩;go_wp2
  go_end0
  exact⟨rfl,t,G,((S0.trans d).trans D).trans C⟩
 ·go_enter Tryz.func68,Tryz.ntmps68;go_upto_region 1 with fail;rw[<-c,<-HG.out];clear c;go_wp2_with fail;refine p.mono ?_;rintro e w2 ⟨rfl,i,J,d⟩;clear p c0 c1 c2 c3;obtain⟨c0,c1,c2,c3⟩:=r.out _ _ d;have l:=ez w2 i rb p0 p1 p2 p3 p4 A 12 0 1 J;go_wp2_with fail;refine l.mono ?_;rintro e w4 ⟨rfl,u,H,D⟩;clear l;have E:=eK w4 u rb p0 p1 p2 p3 p4 _ (-1) _ L (by omega) (by omega) H;go_wp2_with fail;refine E.mono ?_;rintro e w5 ⟨rfl,t,G,C⟩;go_wp2
  go_end0
  exact⟨rfl,t,G,((S0.trans d).trans D).trans C⟩
abbrev Nd8 (w:GE)(b j:Nat)(y:Ex)(ak:Option G1)(ck:Nat):Prop:=w.cell? ⟨b,j+4,GA⟩=GB (.int .i64 y.k)/\w.cell? ⟨b,j+5,GA⟩=GB (.int .i64 y.n)/\w.cell? ⟨b,j+6,GA⟩=GB (stv y.nm)/\w.cell? ⟨b,j+7,GA⟩=GB (.slice ak y.kids.len ck)
abbrev NdC (w:GE)(b j:Nat)(y:Ex)(ak:Option G1)(ck:Nat):Prop:=w.cell? ⟨b,j+8,GA⟩=GB (.int .i64 y.k)/\w.cell? ⟨b,j+9,GA⟩=GB (.int .i64 y.n)/\w.cell? ⟨b,j+10,GA⟩=GB (stv y.nm)/\w.cell? ⟨b,j+11,GA⟩=GB (.slice ak y.kids.len ck)
theorem hS {A B:Dp}{op a b c:Nat}(h:Dle c (A.puts op a b) B)(e:B.lg=false):A.at1<B.ws.length:=by
 have d:=h.w2;unfold Dp.at1;by_cases h1:32768<=A.ws.length
 ·have:(A.puts op a b).lg=true:=by unfold Dp.puts;rw[if_pos h1]
  rw[h.lg this] at e;cases e
 ·rw[if_neg h1];unfold Dp.puts at d;rw[if_neg h1] at d;simp at d;omega
def chA (op:Nat)(A:Dp):Dp:=(A.puts op 0 0).grows (-1)
theorem jC (op:Nat)(A:Dp):Dle 1 (A.puts op 0 0) (chA op A):=eu _ (-1) 1 (by omega) (by omega)
theorem kS (op:Nat)(A:Dp):Dle 1 A (chA op A):=((dV A op 0 0).trans (jC op A)).le (by omega)
theorem Ay (K:Nat->Int)(nc N:Nat)(HP:iz K nc N)(n:Int)(nm:List UInt8)(a:Int)(x y:Ex)(ao:Option G1)(cap ar:Nat)(w:GE)(o:Nat->Nat)(rb:Nat)(p0 p1 p2 p3 p4:GJ)(lv:List Int)(s:Dp)(m:Nat)(hN:(Fs.ex x (Fs.ex y .nil)).size<=N)(ho:okE nc ⟨17,n,nm,a,(Fs.ex x (Fs.ex y .nil))⟩)(l:skF K (Fs.ex x (Fs.ex y .nil)) 17 0)(u:lv.length=nc)(t:nc<=256)(F:ar+(Fs.ex x (Fs.ex y .nil)).size<=1000000)(r:(Fs.ex x (Fs.ex y .nil)).size<=100000)(S:SnO w o (Fs.ex x (Fs.ex y .nil)) ao)(p:s.ks.length=nc)(hz:s.sz m)(hm:m+(17*(Fs.ex x (Fs.ex y .nil)).size+16)<=100000000)(X:DX w o p4 lv)(h:DW w o rb p0 p1 p2 p3 p4 s) :
  GR GD 71 #[pt0 rb,exN ⟨17,n,nm,a,(Fs.ex x (Fs.ex y .nil))⟩ ao cap,.int .i64 ar] w (fD w o rb p0 p1 p2 p3 p4 ((((chA 13 (deE lv y ar (chA 14 (deE lv x ar s)))).lands (deE lv x ar s).at1).val 0 2).lands (deE lv y ar (chA 14 (deE lv x ar s))).at1) (.tuple #[])):=by
 have i:=ho.2;simp only at i;have ox:=(eo i).1;have oy:=(eo (eo i).2).1;have sx:skE K x:=kX (by omega) l;have sy:skE K y:=nM (by omega) l;simp only[eC,Fs.size] at hN F r hm;obtain⟨w1,M,g,k,HG,B1,E1,X1,q,S0⟩:=gr #[.int .i64 17,.int .i64 n,stv nm,.slice ao (Fs.ex x (Fs.ex y .nil)).len cap] h X S;have f:=gp B1;obtain⟨c0,c1,c2,c3⟩:=f.out _ _ (dQ.refl I17 w1 M);obtain⟨l1,-⟩:=E1.cl;have T1:=dQ.refl I17 w1 M;clear B1 h X S;rw[dS];simp only;obtain⟨b,off,ak,ck,ab,NN,Sx,NK⟩:=ic (x:=.nil) q 0 rfl;obtain⟨b1,af,H,G,d,ac,Sy,ad⟩:=ic (x:=one x) q 1 rfl;subst ab;injection d with d
 injection d with e1 e2
 subst e1 e2;have j:(Fs.ex x (Fs.ex y .nil)).len=2:=rfl;rw[j] at k f c3 ⊢;obtain⟨x0,Z,Y,W⟩:Nd4 w1 b off x ak ck:=NN;have H1:=HP x ak ck ar w1 M rb p0 p1 p2 p3 p4 lv s m (by omega) ox sx u t (by omega) (by omega) Sx p hz (by omega) X1 E1;rw[dS] at H1;have dA:=fg lv x ar s;generalize deE lv x ar s=A at *;have zA:=dA.sz m hz;have dB:=jC 14 A;have U:=(dV A 14 0 0).sz _ zA;have V:=dB.sz _ U;have kB:(chA 14 A).ks.length=nc:=((kS 14 A).ks.trans dA.ks).trans p;have HB:∀ wx c,DW wx c rb p0 p1 p2 p3 p4 (A.puts 14 0 0)->GR GD 65 #[.pointer (GB ⟨rb,0,GA⟩),.int .i64 (-1)] wx (fD wx c rb p0 p1 p2 p3 p4 (chA 14 A) (.tuple #[])):=λwx c E=>eK wx c rb p0 p1 p2 p3 p4 _ (-1) _ U (by omega) (by omega) E;generalize hB:chA 14 A=B at *;have P:=fg lv y ar B;have H4:∀ wx c,dQ I17 w1 M wx c->DW wx c rb p0 p1 p2 p3 p4 B->_:=λwx c T E=>HP y H G ar wx c rb p0 p1 p2 p3 p4 lv B _ (by omega) oy sy u t (by omega) (by omega) (Sy.stepO T dZ) kB V (by omega) (X1.step T dZ) E;simp only[dS] at H4;generalize deE lv y ar B=C at *;have zC:=P.sz _ V;have R:=(dV C 13 0 0).sz _ zC;have O:=jC 13 C;have HD:∀ wx c,DW wx c rb p0 p1 p2 p3 p4 (C.puts 13 0 0)->GR GD 65 #[.pointer (GB ⟨rb,0,GA⟩),.int .i64 (-1)] wx (fD wx c rb p0 p1 p2 p3 p4 (chA 13 C) (.tuple #[])):=λwx c E=>eK wx c rb p0 p1 p2 p3 p4 _ (-1) _ R (by omega) (by omega) E;have zD:=O.sz _ R;have lD:(chA 13 C).lg=false->A.at1<(chA 13 C).ws.length:=hS ((dB.trans P).trans ((dV C 13 0 0).trans O));have kD:(chA 13 C).ks.length=nc:=((((kS 13 C).ks).trans P.ks).trans kB);generalize chA 13 C=D at *;have zE:=(eF D A.at1).sz _ zD;have dE:=O.trans (eF D A.at1);have lF:((D.lands A.at1).val 0 2).lg=false->C.at1<((D.lands A.at1).val 0 2).ws.length:=hS (dE.trans (fd _ _ _));generalize z:A.at1=iA at *;generalize v:C.at1=iC at *;have hP:=λwx c E=>ez wx c rb p0 p1 p2 p3 p4 A 14 0 0 E;have hQ:=λwx c E=>ez wx c rb p0 p1 p2 p3 p4 C 13 0 0 E;rw[z] at hP;rw[v] at hQ;clear l ho i HP q X1 E1 z v hB dA dB P O dE zA U V zC R ox oy sx sy Sx Sy l1 ac j hN F r p hz;go_enter Tryz.func71,Tryz.ntmps71;go_upto_region 1 with fail;rw[<-k,<-HG.out];clear k;go_wp2_with fail;refine H1.mono ?_;rintro e w2 ⟨rfl,o2,E2,S2⟩;have T2:=T1.trans S2;clear S2 c0 c1 c2 c3 x0 Z Y W H1;obtain⟨c0,c1,c2,c3⟩:=f.out _ _ T2;go_wp2_with fail;refine(hP w2 o2 E2).mono ?_;rintro e w3 ⟨rfl,o3,E3,S3⟩;have T3:=T2.trans S3;clear S3 c0 c1 c2 c3;obtain⟨c0,c1,c2,c3⟩:=f.out _ _ T3;go_wp2_with fail;refine(HB w3 o3 E3).mono ?_;rintro e w4 ⟨rfl,o4,E4,S4⟩;have Q:=T3.trans S4;clear S4 c0 c1 c2 c3;obtain⟨c0,c1,c2,c3⟩:=f.out _ _ Q;obtain⟨x0,Z,Y,W⟩:Nd8 w4 b off y H G:=ad Q dZ;have H5:=H4 w4 o4 Q E4;go_wp2_with fail;refine H5.mono ?_;rintro e w5 ⟨rfl,o5,E5,S5⟩;have T5:=Q.trans S5;clear S5 c0 c1 c2 c3 x0 Z Y W H5 H4;obtain⟨c0,c1,c2,c3⟩:=f.out _ _ T5;go_wp2_with fail;refine(hQ w5 o5 E5).mono ?_;rintro e w6 ⟨rfl,o6,E6,S6⟩;have T6:=T5.trans S6;clear S6 c0 c1 c2 c3;obtain⟨c0,c1,c2,c3⟩:=f.out _ _ T6;go_wp2_with fail;refine(HD w6 o6 E6).mono ?_;rintro e w7 ⟨rfl,o7,E7,S7⟩;have T7:=T6.trans S7;clear S7 c0 c1 c2 c3;obtain⟨c0,c1,c2,c3⟩:=f.out _ _ T7;have H7:=fW w7 o7 rb p0 p1 p2 p3 p4 D iA lD E7;go_wp2_with fail;refine H7.mono ?_;rintro e w8 ⟨rfl,o8,E8,S8⟩;have T8:=T7.trans S8;clear S8 c0 c1 c2 c3 H7;obtain⟨c0,c1,c2,c3⟩:=f.out _ _ T8;have H8:=gN w8 o8 rb p0 p1 p2 p3 p4 (D.lands iA) 0 2 _ zE (by omega) E8;go_wp2_with fail;refine H8.mono ?_;rintro e w9 ⟨rfl,o9,E9,S9⟩;have T9:=T8.trans S9;clear S9 c0 c1 c2 c3 H8;obtain⟨c0,c1,c2,c3⟩:=f.out _ _ T9;have L:=fW w9 o9 rb p0 p1 p2 p3 p4 _ iC lF E9;go_wp2_with fail;refine L.mono ?_;rintro e ag ⟨rfl,aa,ae,J⟩;have I:=T9.trans J;clear J c0 c1 c2 c3 L;obtain⟨c0,c1,c2,c3⟩:=f.out _ _ I;go_wp2
 go_end0
 exact⟨rfl,aa,ae,S0.trans I⟩
theorem AQ (K:Nat->Int)(nc N:Nat)(HP:iz K nc N)(n:Int)(nm:List UInt8)(a:Int)(x y:Ex)(ao:Option G1)(cap ar:Nat)(w:GE)(o:Nat->Nat)(rb:Nat)(p0 p1 p2 p3 p4:GJ)(lv:List Int)(s:Dp)(m:Nat)(hN:(Fs.ex x (Fs.ex y .nil)).size<=N)(ho:okE nc ⟨18,n,nm,a,(Fs.ex x (Fs.ex y .nil))⟩)(l:skF K (Fs.ex x (Fs.ex y .nil)) 18 0)(u:lv.length=nc)(t:nc<=256)(F:ar+(Fs.ex x (Fs.ex y .nil)).size<=1000000)(r:(Fs.ex x (Fs.ex y .nil)).size<=100000)(S:SnO w o (Fs.ex x (Fs.ex y .nil)) ao)(p:s.ks.length=nc)(hz:s.sz m)(hm:m+(17*(Fs.ex x (Fs.ex y .nil)).size+16)<=100000000)(X:DX w o p4 lv)(h:DW w o rb p0 p1 p2 p3 p4 s) :
  GR GD 71 #[pt0 rb,exN ⟨18,n,nm,a,(Fs.ex x (Fs.ex y .nil))⟩ ao cap,.int .i64 ar] w (fD w o rb p0 p1 p2 p3 p4 ((((chA 13 (deE lv y ar (chA 15 (deE lv x ar s)))).lands (deE lv x ar s).at1).val 1 2).lands (deE lv y ar (chA 15 (deE lv x ar s))).at1) (.tuple #[])):=by
 have i:=ho.2;simp only at i;have ox:=(eo i).1;have oy:=(eo (eo i).2).1;have sx:skE K x:=kX (by omega) l;have sy:skE K y:=nM (by omega) l;simp only[eC,Fs.size] at hN F r hm;obtain⟨w1,M,g,k,HG,B1,E1,X1,q,S0⟩:=gr #[.int .i64 18,.int .i64 n,stv nm,.slice ao (Fs.ex x (Fs.ex y .nil)).len cap] h X S;have f:=gp B1;obtain⟨c0,c1,c2,c3⟩:=f.out _ _ (dQ.refl I17 w1 M);obtain⟨l1,-⟩:=E1.cl;have T1:=dQ.refl I17 w1 M;clear B1 h X S;rw[dS];simp only;obtain⟨b,off,ak,ck,ab,NN,Sx,NK⟩:=ic (x:=.nil) q 0 rfl;obtain⟨b1,af,H,G,d,ac,Sy,ad⟩:=ic (x:=one x) q 1 rfl;subst ab;injection d with d
 injection d with e1 e2
 subst e1 e2;have j:(Fs.ex x (Fs.ex y .nil)).len=2:=rfl;rw[j] at k f c3 ⊢;obtain⟨x0,Z,Y,W⟩:Nd4 w1 b off x ak ck:=NN;have H1:=HP x ak ck ar w1 M rb p0 p1 p2 p3 p4 lv s m (by omega) ox sx u t (by omega) (by omega) Sx p hz (by omega) X1 E1;rw[dS] at H1;have dA:=fg lv x ar s;generalize deE lv x ar s=A at *;have zA:=dA.sz m hz;have dB:=jC 15 A;have U:=(dV A 15 0 0).sz _ zA;have V:=dB.sz _ U;have kB:(chA 15 A).ks.length=nc:=((kS 15 A).ks.trans dA.ks).trans p;have HB:∀ wx c,DW wx c rb p0 p1 p2 p3 p4 (A.puts 15 0 0)->GR GD 65 #[.pointer (GB ⟨rb,0,GA⟩),.int .i64 (-1)] wx (fD wx c rb p0 p1 p2 p3 p4 (chA 15 A) (.tuple #[])):=λwx c E=>eK wx c rb p0 p1 p2 p3 p4 _ (-1) _ U (by omega) (by omega) E;generalize hB:chA 15 A=B at *;have P:=fg lv y ar B;have H4:∀ wx c,dQ I17 w1 M wx c->DW wx c rb p0 p1 p2 p3 p4 B->_:=λwx c T E=>HP y H G ar wx c rb p0 p1 p2 p3 p4 lv B _ (by omega) oy sy u t (by omega) (by omega) (Sy.stepO T dZ) kB V (by omega) (X1.step T dZ) E;simp only[dS] at H4;generalize deE lv y ar B=C at *;have zC:=P.sz _ V;have R:=(dV C 13 0 0).sz _ zC;have O:=jC 13 C;have HD:∀ wx c,DW wx c rb p0 p1 p2 p3 p4 (C.puts 13 0 0)->GR GD 65 #[.pointer (GB ⟨rb,0,GA⟩),.int .i64 (-1)] wx (fD wx c rb p0 p1 p2 p3 p4 (chA 13 C) (.tuple #[])):=λwx c E=>eK wx c rb p0 p1 p2 p3 p4 _ (-1) _ R (by omega) (by omega) E;have zD:=O.sz _ R;have lD:(chA 13 C).lg=false->A.at1<(chA 13 C).ws.length:=hS ((dB.trans P).trans ((dV C 13 0 0).trans O));have kD:(chA 13 C).ks.length=nc:=((((kS 13 C).ks).trans P.ks).trans kB);generalize chA 13 C=D at *;have zE:=(eF D A.at1).sz _ zD;have dE:=O.trans (eF D A.at1);have lF:((D.lands A.at1).val 1 2).lg=false->C.at1<((D.lands A.at1).val 1 2).ws.length:=hS (dE.trans (fd _ _ _));generalize z:A.at1=iA at *;generalize v:C.at1=iC at *;have hP:=λwx c E=>ez wx c rb p0 p1 p2 p3 p4 A 15 0 0 E;have hQ:=λwx c E=>ez wx c rb p0 p1 p2 p3 p4 C 13 0 0 E;rw[z] at hP;rw[v] at hQ;clear l ho i HP q X1 E1 z v hB dA dB P O dE zA U V zC R ox oy sx sy Sx Sy l1 ac j hN F r p hz;go_enter Tryz.func71,Tryz.ntmps71;go_upto_region 1 with fail;rw[<-k,<-HG.out];clear k;go_wp2_with fail;refine H1.mono ?_;rintro e w2 ⟨rfl,o2,E2,S2⟩;have T2:=T1.trans S2;clear S2 c0 c1 c2 c3 x0 Z Y W H1;obtain⟨c0,c1,c2,c3⟩:=f.out _ _ T2;go_wp2_with fail;refine(hP w2 o2 E2).mono ?_;rintro e w3 ⟨rfl,o3,E3,S3⟩;have T3:=T2.trans S3;clear S3 c0 c1 c2 c3;obtain⟨c0,c1,c2,c3⟩:=f.out _ _ T3;go_wp2_with fail;refine(HB w3 o3 E3).mono ?_;rintro e w4 ⟨rfl,o4,E4,S4⟩;have Q:=T3.trans S4;clear S4 c0 c1 c2 c3;obtain⟨c0,c1,c2,c3⟩:=f.out _ _ Q;obtain⟨x0,Z,Y,W⟩:Nd8 w4 b off y H G:=ad Q dZ;have H5:=H4 w4 o4 Q E4;go_wp2_with fail;refine H5.mono ?_;rintro e w5 ⟨rfl,o5,E5,S5⟩;have T5:=Q.trans S5;clear S5 c0 c1 c2 c3 x0 Z Y W H5 H4;obtain⟨c0,c1,c2,c3⟩:=f.out _ _ T5;go_wp2_with fail;refine(hQ w5 o5 E5).mono ?_;rintro e w6 ⟨rfl,o6,E6,S6⟩;have T6:=T5.trans S6;clear S6 c0 c1 c2 c3;obtain⟨c0,c1,c2,c3⟩:=f.out _ _ T6;go_wp2_with fail;refine(HD w6 o6 E6).mono ?_;rintro e w7 ⟨rfl,o7,E7,S7⟩;have T7:=T6.trans S7;clear S7 c0 c1 c2 c3;obtain⟨c0,c1,c2,c3⟩:=f.out _ _ T7;have H7:=fW w7 o7 rb p0 p1 p2 p3 p4 D iA lD E7;go_wp2_with fail;refine H7.mono ?_;rintro e w8 ⟨rfl,o8,E8,S8⟩;have T8:=T7.trans S8;clear S8 c0 c1 c2 c3 H7;obtain⟨c0,c1,c2,c3⟩:=f.out _ _ T8;have H8:=gN w8 o8 rb p0 p1 p2 p3 p4 (D.lands iA) 1 2 _ zE (by omega) E8;go_wp2_with fail;refine H8.mono ?_;rintro e w9 ⟨rfl,o9,E9,S9⟩;have T9:=T8.trans S9;clear S9 c0 c1 c2 c3 H8;obtain⟨c0,c1,c2,c3⟩:=f.out _ _ T9;have L:=fW w9 o9 rb p0 p1 p2 p3 p4 _ iC lF E9;go_wp2_with fail;refine L.mono ?_;rintro e ag ⟨rfl,aa,ae,J⟩;have I:=T9.trans J;clear J c0 c1 c2 c3 L;obtain⟨c0,c1,c2,c3⟩:=f.out _ _ I;go_wp2
 go_end0
 exact⟨rfl,aa,ae,S0.trans I⟩
theorem zh (K:Nat->Int)(nc N:Nat)(HP:iz K nc N)(n:Int)(nm:List UInt8)(a:Int)(x y z:Ex)(ao:Option G1)(cap ar:Nat)(w:GE)(o:Nat->Nat)(rb:Nat)(p0 p1 p2 p3 p4:GJ)(lv:List Int)(s:Dp)(m:Nat)(hN:(Fs.ex x (Fs.ex y (Fs.ex z .nil))).size<=N)(ho:okE nc ⟨19,n,nm,a,(Fs.ex x (Fs.ex y (Fs.ex z .nil)))⟩)(d:skF K (Fs.ex x (Fs.ex y (Fs.ex z .nil))) 19 0)(t:lv.length=nc)(r:nc<=256)(P:ar+(Fs.ex x (Fs.ex y (Fs.ex z .nil))).size<=1000000)(L:(Fs.ex x (Fs.ex y (Fs.ex z .nil))).size<=100000)(S:SnO w o (Fs.ex x (Fs.ex y (Fs.ex z .nil))) ao)(u:s.ks.length=nc)(hz:s.sz m)(hm:m+(17*(Fs.ex x (Fs.ex y (Fs.ex z .nil))).size+16)<=100000000)(X:DX w o p4 lv)(h:DW w o rb p0 p1 p2 p3 p4 s) :
  GR GD 71 #[pt0 rb,exN ⟨19,n,nm,a,(Fs.ex x (Fs.ex y (Fs.ex z .nil)))⟩ ao cap,.int .i64 ar] w (fD w o rb p0 p1 p2 p3 p4 (((deE lv z ar ((chA 13 (deE lv y ar (chA 14 (deE lv x ar s)))).lands (deE lv x ar s).at1))).lands (deE lv y ar (chA 14 (deE lv x ar s))).at1) (.tuple #[])):=by
 have f:=ho.2;simp only at f;have ox:=(eo f).1;have oy:=(eo (eo f).2).1;have sx:=kX (by omega) d;have sy:=nM (by omega) d;have oz:=(eo (eo (eo f).2).2).1;have aa:skE K z:=⟨λhs=>absurd (d.2.2.2.2.2.2.1.1 hs).1 (by omega),d.2.2.2.2.2.2.2.1,d.2.2.2.2.2.2.2.2.1⟩;simp only[eC,Fs.size] at hN P L hm;obtain⟨w1,J,g,q,HG,B1,E1,X1,l,S0⟩:=gr #[.int .i64 19,.int .i64 n,stv nm,.slice ao (Fs.ex x (Fs.ex y (Fs.ex z .nil))).len cap] h X S;have k:=gp B1;obtain⟨c0,c1,c2,c3⟩:=k.out _ _ (dQ.refl I17 w1 J);obtain⟨l1,-⟩:=E1.cl;have T1:=dQ.refl I17 w1 J;clear B1 h X S;rw[dS];simp only;obtain⟨b,off,ak,ck,ac,NN,Sx,NK⟩:=ic (x:=.nil) l 0 rfl;obtain⟨b1,ai,V,R,j,ad,Sy,af⟩:=ic (x:=one x) l 1 rfl;obtain⟨b2,ah,U,Q,i,al,Sz,ae⟩:=ic (x:=Fs.ex x (one y)) l 2 rfl;subst ac;injection j with j
 injection j with e1 e2
 subst e1 e2;injection i with i
 injection i with e1 e2
 subst e1 e2;have p:(Fs.ex x (Fs.ex y (Fs.ex z .nil))).len=3:=rfl;rw[p] at q k c3 ⊢;obtain⟨I,H,G,v⟩:Nd4 w1 b off x ak ck:=NN;have H1:=HP x ak ck ar w1 J rb p0 p1 p2 p3 p4 lv s m (by omega) ox sx t r (by omega) (by omega) Sx u hz (by omega) X1 E1;rw[dS] at H1;have dA:=fg lv x ar s;generalize deE lv x ar s=A at *;have zA:=dA.sz m hz;have dB:=jC 14 A;have zP:=(dV A 14 0 0).sz _ zA;have zB:=dB.sz _ zP;have kB:(chA 14 A).ks.length=nc:=((kS 14 A).ks.trans dA.ks).trans u;have HB:∀ wx c,DW wx c rb p0 p1 p2 p3 p4 (A.puts 14 0 0)->GR GD 65 #[.pointer (GB ⟨rb,0,GA⟩),.int .i64 (-1)] wx (fD wx c rb p0 p1 p2 p3 p4 (chA 14 A) (.tuple #[])):=λwx c E=>eK wx c rb p0 p1 p2 p3 p4 _ (-1) _ zP (by omega) (by omega) E;generalize hB:chA 14 A=B at *;have dC:=fg lv y ar B;have H4:∀ wx c,dQ I17 w1 J wx c->DW wx c rb p0 p1 p2 p3 p4 B->_:=λwx c T E=>HP y V R ar wx c rb p0 p1 p2 p3 p4 lv B _ (by omega) oy sy t r (by omega) (by omega) (Sy.stepO T dZ) kB zB (by omega) (X1.step T dZ) E;simp only[dS] at H4;generalize deE lv y ar B=C at *;have zC:=dC.sz _ zB;have zQ:=(dV C 13 0 0).sz _ zC;have dD:=jC 13 C;have HD:∀ wx c,DW wx c rb p0 p1 p2 p3 p4 (C.puts 13 0 0)->GR GD 65 #[.pointer (GB ⟨rb,0,GA⟩),.int .i64 (-1)] wx (fD wx c rb p0 p1 p2 p3 p4 (chA 13 C) (.tuple #[])):=λwx c E=>eK wx c rb p0 p1 p2 p3 p4 _ (-1) _ zQ (by omega) (by omega) E;have zD:=dD.sz _ zQ;have lD:=hS ((dB.trans dC).trans ((dV C 13 0 0).trans dD));have kD:(chA 13 C).ks.length=nc:=((((kS 13 C).ks).trans dC.ks).trans kB);generalize chA 13 C=D at *;have zE:=(eF D A.at1).sz _ zD;have dE:=dD.trans (eF D A.at1);have kE:(D.lands A.at1).ks.length=nc:=(eF D A.at1).ks.trans kD;have H9:∀ wx c,dQ I17 w1 J wx c->DW wx c rb p0 p1 p2 p3 p4 (D.lands A.at1)->_:=λwx c T E=>HP z U Q ar wx c rb p0 p1 p2 p3 p4 lv (D.lands A.at1) _ (by omega) oz aa t r (by omega) (by omega) (Sz.stepO T dZ) kE zE (by omega) (X1.step T dZ) E;simp only[dS] at H9;have lF:=hS (dE.trans (fg lv z ar _));generalize deE lv z ar (D.lands A.at1)=F at *;generalize O:A.at1=iA at *;generalize M:C.at1=iC at *;have hP:=λwx c E=>ez wx c rb p0 p1 p2 p3 p4 A 14 0 0 E;have hQ:=λwx c E=>ez wx c rb p0 p1 p2 p3 p4 C 13 0 0 E;rw[O] at hP;rw[M] at hQ;clear d ho f HP l X1 E1 O M hB dA dB dC dD dE zA zP zB zC zQ ox oy sx sy Sx Sy l1 ad p hN P L u hz;go_enter Tryz.func71,Tryz.ntmps71;go_upto_region 1 with fail;rw[<-q,<-HG.out];clear q;go_wp2_with fail;refine H1.mono ?_;rintro e w2 ⟨rfl,o2,E2,S2⟩;have T2:=T1.trans S2;clear S2 c0 c1 c2 c3 I H G v H1;obtain⟨c0,c1,c2,c3⟩:=k.out _ _ T2;go_wp2_with fail;refine(hP w2 o2 E2).mono ?_;rintro e w3 ⟨rfl,o3,E3,S3⟩;have T3:=T2.trans S3;clear S3 c0 c1 c2 c3;obtain⟨c0,c1,c2,c3⟩:=k.out _ _ T3;go_wp2_with fail;refine(HB w3 o3 E3).mono ?_;rintro e w4 ⟨rfl,o4,E4,S4⟩;have T4:=T3.trans S4;clear S4 c0 c1 c2 c3;obtain⟨c0,c1,c2,c3⟩:=k.out _ _ T4;obtain⟨I,H,G,v⟩:Nd8 w4 b off y V R:=af T4 dZ;have H5:=H4 w4 o4 T4 E4;go_wp2_with fail;refine H5.mono ?_;rintro e w5 ⟨rfl,o5,E5,S5⟩;have T5:=T4.trans S5;clear S5 c0 c1 c2 c3 I H G v H5 H4;obtain⟨c0,c1,c2,c3⟩:=k.out _ _ T5;go_wp2_with fail;refine(hQ w5 o5 E5).mono ?_;rintro e w6 ⟨rfl,o6,E6,S6⟩;have T6:=T5.trans S6;clear S6 c0 c1 c2 c3;obtain⟨c0,c1,c2,c3⟩:=k.out _ _ T6;go_wp2_with fail;refine(HD w6 o6 E6).mono ?_;rintro e w7 ⟨rfl,o7,E7,S7⟩;have T7:=T6.trans S7;clear S7 c0 c1 c2 c3;obtain⟨c0,c1,c2,c3⟩:=k.out _ _ T7;have H7:=fW w7 o7 rb p0 p1 p2 p3 p4 D iA lD E7;go_wp2_with fail;refine H7.mono ?_;rintro e w8 ⟨rfl,o8,E8,S8⟩;have T8:=T7.trans S8;clear S8 c0 c1 c2 c3 H7;obtain⟨c0,c1,c2,c3⟩:=k.out _ _ T8;obtain⟨I,H,G,v⟩:NdC w8 b off z U Q:=ae T8 dZ;have H8:=H9 w8 o8 T8 E8;go_wp2_with fail;refine H8.mono ?_;rintro e w9 ⟨rfl,o9,E9,S9⟩;have T9:=T8.trans S9;clear S9 c0 c1 c2 c3 I H G v H8 H9;obtain⟨c0,c1,c2,c3⟩:=k.out _ _ T9;have Z:=fW w9 o9 rb p0 p1 p2 p3 p4 F iC lF E9;go_wp2_with fail;refine Z.mono ?_;rintro e aj ⟨rfl,ab,ag,Y⟩;have W:=T9.trans Y;clear Y c0 c1 c2 c3 Z;obtain⟨c0,c1,c2,c3⟩:=k.out _ _ W;go_wp2
 go_end0
 exact⟨rfl,ab,ag,S0.trans W⟩
theorem oN (K:Nat->Int)(nc N:Nat)(HP:iz K nc N)(k n:Int)(nm:List UInt8)(a:Int)(ks:Fs)(ao:Option G1)(cap ar:Nat)(w:GE)(o:Nat->Nat)(rb:Nat)(p0 p1 p2 p3 p4:GJ)(lv:List Int)(s:Dp)(m:Nat)(hk:22<=k/\k<=25)(hN:ks.size<=N)(O:okE nc ⟨k,n,nm,a,ks⟩)(E:skF K ks k 0)(R:lv.length=nc)(Q:nc<=256)(U:ar+ks.size<=1000000)(M:ks.size<=100000)(S:SnO w o ks ao)(T:s.ks.length=nc)(W:s.sz m)(hm:m+(17*ks.size+16)<=100000000)(X:DX w o p4 lv)(h:DW w o rb p0 p1 p2 p3 p4 s) :
  GR GD 115 #[pt0 rb,exN ⟨k,n,nm,a,ks⟩ ao cap,.int .i64 ar] w (fD w o rb p0 p1 p2 p3 p4 (yw k nm (deF lv ks) ar s) (.tuple #[])):=by
 have F:k≠21:=by omega
 have P:=zR O.1.1;simp only at P;obtain⟨w1,L,g,b,I,B1,V,Y,G,H⟩:=gr #[.int .i64 k,.int .i64 n,stv nm,.slice ao ks.len cap] h X S;have c:=gp B1;obtain⟨c0,c1,c2,c3⟩:=c.out _ _ (dQ.refl I17 w1 L);obtain⟨l1,-⟩:=V.cl;have C:=dQ.refl I17 w1 L;clear B1 h X S;rw[dS];simp only;have t:=rj K nc N HP k n nm a ks ao cap ar w1 L rb p0 p1 p2 p3 p4 lv s m hN O.2 F E R Q U M (G.stepO C dZ) T W (by omega) (Y.step C dZ) V;rw[dS] at t;simp only at t;have D:=((lp lv ks ar s).sz m W);have aa:=iZ ks;unfold yw
 dsimp only
 rw[ru];generalize fP (deF lv ks) ar s=A at *;generalize ks.len=le at *;have hc:k=22\/k=23\/k=24\/k=25:=by omega
 have zN:=(uL A nm).sz _ D;clear hk F E O HP G Y V l1;rcases hc with rfl|rfl|rfl|rfl
 ·go_enter Tryz.func115,Tryz.ntmps115;go_upto_region 1 with fail;rw[<-b,<-I.out];clear b;go_wp2_with fail;refine t.mono ?_;rintro e w2 ⟨rfl,x,B,p⟩;have i:=C.trans p;clear p c0 c1 c2 c3 t;obtain⟨c0,c1,c2,c3⟩:=c.out _ _ i;have r:=ez w2 x rb p0 p1 p2 p3 p4 A 20 0 0 B;go_wp2_with fail;refine r.mono ?_;rintro e w4 ⟨rfl,v,z,l⟩;have f:=i.trans l;clear l c0 c1 c2 c3 r;obtain⟨c0,c1,c2,c3⟩:=c.out _ _ f;have q:=eK w4 v rb p0 p1 p2 p3 p4 _ (-(le:Int)) _ ((dV A 20 0 0).sz _ D) (by omega) (by omega) z;go_wp2_with fail;refine q.mono ?_;rintro e J ⟨rfl,u,y,j⟩;have d:=f.trans j;clear j c0 c1 c2 c3 q;obtain⟨c0,c1,c2,c3⟩:=c.out _ _ d;go_wp2
  go_end0
  exact⟨rfl,u,y,H.trans d⟩
 ·go_enter Tryz.func115,Tryz.ntmps115;go_upto_region 1 with fail;rw[<-b,<-I.out];clear b;go_wp2_with fail;refine t.mono ?_;rintro e w2 ⟨rfl,x,B,p⟩;have i:=C.trans p;clear p c0 c1 c2 c3 t;obtain⟨c0,c1,c2,c3⟩:=c.out _ _ i;have H2:=s_c w2 x rb p0 p1 p2 p3 p4 A nm (by unfold GY;omega) (by have:=D.n;omega) B;go_wp2_with fail;refine H2.mono ?_;rintro e w3 ⟨rfl,o3,E3,S3⟩;have Z:=i.trans S3;clear S3 c0 c1 c2 c3 H2;obtain⟨c0,c1,c2,c3⟩:=c.out _ _ Z;have r:=ez w3 o3 rb p0 p1 p2 p3 p4 (A.kN nm) 21 (A.ns.idxOf nm) 0 E3;go_wp2_with fail;refine r.mono ?_;rintro e w4 ⟨rfl,v,z,l⟩;have f:=Z.trans l;clear l c0 c1 c2 c3 r;obtain⟨c0,c1,c2,c3⟩:=c.out _ _ f;have q:=eK w4 v rb p0 p1 p2 p3 p4 _ (-(le:Int)) _ ((dV (A.kN nm) 21 (A.ns.idxOf nm) 0).sz _ zN) (by omega) (by omega) z;go_wp2_with fail;refine q.mono ?_;rintro e J ⟨rfl,u,y,j⟩;have d:=f.trans j;clear j c0 c1 c2 c3 q;obtain⟨c0,c1,c2,c3⟩:=c.out _ _ d;go_wp2
  go_end0
  exact⟨rfl,u,y,H.trans d⟩
 ·go_enter Tryz.func115,Tryz.ntmps115;go_upto_region 1 with fail;rw[<-b,<-I.out];clear b;go_wp2_with fail;refine t.mono ?_;rintro e w2 ⟨rfl,x,B,p⟩;have i:=C.trans p;clear p c0 c1 c2 c3 t;obtain⟨c0,c1,c2,c3⟩:=c.out _ _ i;have r:=ez w2 x rb p0 p1 p2 p3 p4 A 22 0 0 B;go_wp2_with fail;refine r.mono ?_;rintro e w4 ⟨rfl,v,z,l⟩;have f:=i.trans l;clear l c0 c1 c2 c3 r;obtain⟨c0,c1,c2,c3⟩:=c.out _ _ f;have q:=eK w4 v rb p0 p1 p2 p3 p4 _ (-(le:Int)) _ ((dV A 22 0 0).sz _ D) (by omega) (by omega) z;go_wp2_with fail;refine q.mono ?_;rintro e J ⟨rfl,u,y,j⟩;have d:=f.trans j;clear j c0 c1 c2 c3 q;obtain⟨c0,c1,c2,c3⟩:=c.out _ _ d;go_wp2
  go_end0
  exact⟨rfl,u,y,H.trans d⟩
 ·go_enter Tryz.func115,Tryz.ntmps115;go_upto_region 1 with fail;rw[<-b,<-I.out];clear b;go_wp2_with fail;refine t.mono ?_;rintro e w2 ⟨rfl,x,B,p⟩;have i:=C.trans p;clear p c0 c1 c2 c3 t;obtain⟨c0,c1,c2,c3⟩:=c.out _ _ i;have r:=ez w2 x rb p0 p1 p2 p3 p4 A 23 le 0 B;go_wp2_with fail;refine r.mono ?_;rintro e w4 ⟨rfl,v,z,l⟩;have f:=i.trans l;clear l c0 c1 c2 c3 r;obtain⟨c0,c1,c2,c3⟩:=c.out _ _ f;have q:=eK w4 v rb p0 p1 p2 p3 p4 _ (-(le:Int)) _ ((dV A 23 le 0).sz _ D) (by omega) (by omega) z;go_wp2_with fail;refine q.mono ?_;rintro e J ⟨rfl,u,y,j⟩;have d:=f.trans j;clear j c0 c1 c2 c3 q;obtain⟨c0,c1,c2,c3⟩:=c.out _ _ d;go_wp2
  go_end0
  exact⟨rfl,u,y,H.trans d⟩
theorem xH (h:Nat):∀ (l:List Int) (k:Nat) (s:Dp) (x:Int) (r:List Int),l=x::r->ju h l k s=if s.lg then s else ju h r (k+1) (if x=(h:Int) then s.puts 19 k 0 else s)
 | _,k,s,x,r,rfl=>rfl
theorem kf (ar:Nat)(w:GE)(o:Nat->Nat)(rb:Nat)(p0 p1 p2 p3 p4:GJ)(lv:List Int)(s:Dp)(J:ar<=1000000)(I:lv.length<=256)(X:DX w o p4 lv)(h:DW w o rb p0 p1 p2 p3 p4 s) :
  GR GD 116 #[pt0 rb,.int .i64 ar] w (fD w o rb p0 p1 p2 p3 p4 (ju (ar+1) lv 0 s) (.tuple #[])):=by
 obtain⟨F,cl,rfl,q⟩:=X;have C:Hid (∀ w' o',dQ I17 w o w' o'->∀ j x,lv[j]?=GB x->∃b off,F=GB ⟨b,off,GA⟩/\w'.cell? ⟨b,off+j,GA⟩=GB (.int .i64 x)):=λw' o' S j x l=>by
  rcases q with h|⟨b,off,h1,h2,L,K⟩
  ·rw[h] at l;simp at l
  ·exact⟨b,off,h1,(GS (a:=⟨b,off+j,GA⟩) (S.block b L (by rw[h2];exact dZ))).trans (K j x l)⟩
 obtain⟨W,B⟩:=exq (ju (ar+1) lv 0 s);have g:Hid (W=ju (ar+1) (lv.drop 0) 0 s):=by show _=_;rw[B];rfl
 rw[<-B];obtain⟨u,D⟩:=h.cl;obtain⟨A,E⟩:∃A:Nat,A=ar+1:=⟨_,rfl⟩;have p:Hid ((A:Int)=(ar:Int)+1):=by show _=_;omega
 rw[<-E] at g;clear q B E;go_enter Tryz.func116,Tryz.ntmps116;go_wp2_with fail;go_loopw [4] (λv wr=>∃(k:Nat) (s':Dp) (o':Nat->Nat),v=.int .i64 k/\k<=lv.length/\DW wr o' rb p0 p1 p2 p3 (.slice F lv.length cl) s'/\dQ I17 w o wr o'/\Hid (W=ju A (lv.drop k) k s')) (λv _=>lv.length-(Hh v).toNat)
 case atStart=>exact⟨0,s,o,by go_num,by omega,h,dQ.refl _ _ _,g⟩
 case round =>
  clear g h u D;obtain⟨k,s',o',rfl,P,t,r,g⟩:=hrel;obtain⟨u,D⟩:=t.cl;by_cases m:k<lv.length
  ·have y:(k:Int)<(lv.length:Int):=by omega
   have l:=GI m;have i:=IK m;have c:=g.out;rw[xH A _ k s' _ _ i] at c;by_cases f:s'.lg=true
   ·rw[if_pos f] at c;have d:=GL c;rw[f] at u;clear c g l i C p;go_wp2
    go_end0
    exact⟨rfl,o',by rw[d.out];exact t,r⟩
   ·rw[if_neg f] at c;have n:s'.lg=false:=by simpa using f
    rw[n] at u;obtain⟨b,off,rfl,Q⟩:=C.out _ _ r k _ l;generalize lv[k]=H at *;rw[p.out] at c;by_cases z:H=(ar:Int)+1
    ·rw[if_pos z] at c;have d:=GL c;have N:=ez wr o' rb p0 p1 p2 p3 _ s' 19 k 0 t;subst z;clear c g l i n f;go_wp2_with (first|(go_at_call 35;refine N.mono ?_;rintro e w3 ⟨rfl,G,O,M⟩));go_roundw
     case rel=>(try ((repeat apply G0);refine⟨?_,rfl⟩));exact⟨k+1,s'.puts 19 k 0,G,by go_num,by omega,O,r.trans M,d.out⟩
     case measure=>simp[Hh];omega
    ·rw[if_neg z] at c;have d:=GL c;clear c g l i n f;go_wp2;go_roundw
     case rel=>(try ((repeat apply G0);refine⟨?_,rfl⟩));exact⟨k+1,s',o',by go_num,by omega,t,r,d.out⟩
     case measure=>simp[Hh];omega
  ·have y:¬(k:Int)<(lv.length:Int):=by omega
   obtain rfl:k=lv.length:=by omega
   have c:=g.out;rw[List.drop_length] at c;have d:Hid (W=s'):=c;clear g c m C p;go_wp2
   go_end0
   exact⟨rfl,o',by rw[d.out];exact t,r⟩
theorem CT (g i:Nat)(w:GE)(o:Nat->Nat)(rb:Nat)(p0 p1 p2 p3 p4:GJ)(s:Dp)(m:Nat)(n:s.sz m)(V:m+8<=100000000)(q:s.lg=false->i<s.ws.length)(h:DW w o rb p0 p1 p2 p3 p4 s) :
  GR GD 117 #[pt0 rb,.int .i64 1,.int .i64 g,.int .i64 i] w (fD w o rb p0 p1 p2 p3 p4 (ry 1 g i s) (.tuple #[])):=by
 have r:ry 1 g i s=((((((((s.puts 15 g 0).grows (-1)).puts 25 0 0).val 0 2).puts 13 0 0).grows (-1)).lands i).val 1 2).lands (((((s.puts 15 g 0).grows (-1)).puts 25 0 0).val 0 2).at1):=rfl;rw[r];clear r;have T1:=dQ.refl I17 w o;have d1:=dV s 15 g 0;have c:=d1.sz _ n;have d2:=eu (s.puts 15 g 0) (-1) 1 (by omega) (by omega);have z2:=(dV _ 25 0 0).sz _ (d2.sz _ c);have d3:=(dV ((s.puts 15 g 0).grows (-1)) 25 0 0).trans (fd _ 0 2);have z3:=(fd _ 0 2).sz _ z2;have hA:=λwx a E=>ez wx a rb p0 p1 p2 p3 p4 s 15 g 0 E;have hB:=λwx a E=>eK wx a rb p0 p1 p2 p3 p4 _ (-1) _ c (by omega) (by omega) E;have hC:=λwx a E=>ez wx a rb p0 p1 p2 p3 p4 ((s.puts 15 g 0).grows (-1)) 25 0 0 E;have hD:=λwx a E=>gN wx a rb p0 p1 p2 p3 p4 (((s.puts 15 g 0).grows (-1)).puts 25 0 0) 0 2 _ z2 (by omega) E;have t:=(d1.trans d2).trans d3;generalize (((s.puts 15 g 0).grows (-1)).puts 25 0 0).val 0 2=C at *;have hE:=λwx a E=>ez wx a rb p0 p1 p2 p3 p4 C 13 0 0 E;have z4:=(dV C 13 0 0).sz _ z3;have Z:=λwx a E=>eK wx a rb p0 p1 p2 p3 p4 _ (-1) _ z4 (by omega) (by omega) E;have d4:=eu (C.puts 13 0 0) (-1) 1 (by omega) (by omega);have z5:=d4.sz _ z4;have f:=(t.trans (dV C 13 0 0)).trans d4;generalize (C.puts 13 0 0).grows (-1)=D at *;have Y:=λwx a E=>fW wx a rb p0 p1 p2 p3 p4 D i (λp=>GM (q (by cases U:s.lg with|false=>rfl|true=>rw[f.lg U] at p;cases p)) f.w2) E;have X:=λwx a E=>gN wx a rb p0 p1 p2 p3 p4 (D.lands i) 1 2 _ ((eF D i).sz _ z5) (by omega) E;have l:((D.lands i).val 1 2).lg=false->C.at1<((D.lands i).val 1 2).ws.length:=hS ((d4.trans (eF D i)).trans (fd _ _ _));have W:=λwx a E=>fW wx a rb p0 p1 p2 p3 p4 ((D.lands i).val 1 2) C.at1 l E;generalize C.at1=iC at *;clear d1 c d2 z2 d3 z3 t d4 z4 f z5 l n V q;go_enter Tryz.func117,Tryz.ntmps117;go_wp2_with fail;refine(hA w o h).mono ?_;rintro e w2 ⟨rfl,T,E2,F⟩;have T2:=T1.trans F;clear F ;go_wp2_with fail;refine(hB w2 T E2).mono ?_;rintro e w3 ⟨rfl,S,E3,B⟩;have T3:=T2.trans B;clear B ;go_wp2_with fail;refine(hC w3 S E3).mono ?_;rintro e w4 ⟨rfl,R,E4,A⟩;have T4:=T3.trans A;clear A ;go_wp2_with fail;refine(hD w4 R E4).mono ?_;rintro e K ⟨rfl,Q,E5,z⟩;have T5:=T4.trans z;clear z ;go_wp2_with fail;refine(hE K Q E5).mono ?_;rintro e J ⟨rfl,P,E6,y⟩;have T6:=T5.trans y;clear y ;go_wp2_with fail;refine(Z J P E6).mono ?_;rintro e I ⟨rfl,O,E7,x⟩;have T7:=T6.trans x;clear x ;go_wp2_with fail;refine(Y I O E7).mono ?_;rintro e H ⟨rfl,N,E8,v⟩;have T8:=T7.trans v;clear v ;go_wp2_with fail;refine(X H N E8).mono ?_;rintro e G ⟨rfl,M,E9,u⟩;have T9:=T8.trans u;clear u ;go_wp2_with fail;refine(W G M E9).mono ?_;rintro e L ⟨rfl,d,k,b⟩;have j:=T9.trans b;clear b ;go_wp2
 go_end0
 exact⟨rfl,d,k,j⟩
theorem Cj (g i:Nat)(w:GE)(o:Nat->Nat)(rb:Nat)(p0 p1 p2 p3 p4:GJ)(s:Dp)(m:Nat)(n:s.sz m)(V:m+8<=100000000)(q:s.lg=false->i<s.ws.length)(h:DW w o rb p0 p1 p2 p3 p4 s) :
  GR GD 117 #[pt0 rb,.int .i64 2,.int .i64 g,.int .i64 i] w (fD w o rb p0 p1 p2 p3 p4 (ry 2 g i s) (.tuple #[])):=by
 have r:ry 2 g i s=((((((((s.puts 14 g 0).grows (-1)).puts 25 0 0).val 1 2).puts 13 0 0).grows (-1)).lands i).val 0 2).lands (((((s.puts 14 g 0).grows (-1)).puts 25 0 0).val 1 2).at1):=rfl;rw[r];clear r;have T1:=dQ.refl I17 w o;have d1:=dV s 14 g 0;have c:=d1.sz _ n;have d2:=eu (s.puts 14 g 0) (-1) 1 (by omega) (by omega);have z2:=(dV _ 25 0 0).sz _ (d2.sz _ c);have d3:=(dV ((s.puts 14 g 0).grows (-1)) 25 0 0).trans (fd _ 1 2);have z3:=(fd _ 1 2).sz _ z2;have hA:=λwx a E=>ez wx a rb p0 p1 p2 p3 p4 s 14 g 0 E;have hB:=λwx a E=>eK wx a rb p0 p1 p2 p3 p4 _ (-1) _ c (by omega) (by omega) E;have hC:=λwx a E=>ez wx a rb p0 p1 p2 p3 p4 ((s.puts 14 g 0).grows (-1)) 25 0 0 E;have hD:=λwx a E=>gN wx a rb p0 p1 p2 p3 p4 (((s.puts 14 g 0).grows (-1)).puts 25 0 0) 1 2 _ z2 (by omega) E;have t:=(d1.trans d2).trans d3;generalize (((s.puts 14 g 0).grows (-1)).puts 25 0 0).val 1 2=C at *;have hE:=λwx a E=>ez wx a rb p0 p1 p2 p3 p4 C 13 0 0 E;have z4:=(dV C 13 0 0).sz _ z3;have Z:=λwx a E=>eK wx a rb p0 p1 p2 p3 p4 _ (-1) _ z4 (by omega) (by omega) E;have d4:=eu (C.puts 13 0 0) (-1) 1 (by omega) (by omega);have z5:=d4.sz _ z4;have f:=(t.trans (dV C 13 0 0)).trans d4;generalize (C.puts 13 0 0).grows (-1)=D at *;have Y:=λwx a E=>fW wx a rb p0 p1 p2 p3 p4 D i (λp=>GM (q (by cases U:s.lg with|false=>rfl|true=>rw[f.lg U] at p;cases p)) f.w2) E;have X:=λwx a E=>gN wx a rb p0 p1 p2 p3 p4 (D.lands i) 0 2 _ ((eF D i).sz _ z5) (by omega) E;have l:((D.lands i).val 0 2).lg=false->C.at1<((D.lands i).val 0 2).ws.length:=hS ((d4.trans (eF D i)).trans (fd _ _ _));have W:=λwx a E=>fW wx a rb p0 p1 p2 p3 p4 ((D.lands i).val 0 2) C.at1 l E;generalize C.at1=iC at *;clear d1 c d2 z2 d3 z3 t d4 z4 f z5 l n V q;go_enter Tryz.func117,Tryz.ntmps117;go_wp2_with fail;refine(hA w o h).mono ?_;rintro e w2 ⟨rfl,T,E2,F⟩;have T2:=T1.trans F;clear F ;go_wp2_with fail;refine(hB w2 T E2).mono ?_;rintro e w3 ⟨rfl,S,E3,B⟩;have T3:=T2.trans B;clear B ;go_wp2_with fail;refine(hC w3 S E3).mono ?_;rintro e w4 ⟨rfl,R,E4,A⟩;have T4:=T3.trans A;clear A ;go_wp2_with fail;refine(hD w4 R E4).mono ?_;rintro e K ⟨rfl,Q,E5,z⟩;have T5:=T4.trans z;clear z ;go_wp2_with fail;refine(hE K Q E5).mono ?_;rintro e J ⟨rfl,P,E6,y⟩;have T6:=T5.trans y;clear y ;go_wp2_with fail;refine(Z J P E6).mono ?_;rintro e I ⟨rfl,O,E7,x⟩;have T7:=T6.trans x;clear x ;go_wp2_with fail;refine(Y I O E7).mono ?_;rintro e H ⟨rfl,N,E8,v⟩;have T8:=T7.trans v;clear v ;go_wp2_with fail;refine(X H N E8).mono ?_;rintro e G ⟨rfl,M,E9,u⟩;have T9:=T8.trans u;clear u ;go_wp2_with fail;refine(W G M E9).mono ?_;rintro e L ⟨rfl,d,k,b⟩;have j:=T9.trans b;clear b ;go_wp2
 go_end0
 exact⟨rfl,d,k,j⟩
theorem mF {lv:List Int}{x:Ex}{ar:Nat}{s:Dp}(h:22<=x.k/\x.k<=25):deE lv x ar s=yw x.k x.nm (deF lv x.kids) ar s:=by
 unfold deE nZ;rw[if_pos h]
theorem DW.ll {w:GE}{o:Nat->Nat}{rb:Nat}{p0 p1 p2 p3 p4:GJ}{s:Dp}(h:DW w o rb p0 p1 p2 p3 p4 s):∃ao cap,w.cell? ⟨rb,8,GA⟩=GB (.slice ao s.ws.length cap):=by
 obtain⟨wl,vc,vn,vk,vw,b,a,-⟩:=h;obtain⟨⟨c4,c5,i,g,c,c9,e,d⟩,f⟩:=fk b.1;obtain⟨ao,cap,rfl⟩:=a.form;exact⟨ao,cap,c⟩
theorem CD (K:Nat->Int)(nc N:Nat)(T:iz K nc N)(n:Int)(nm:List UInt8)(a:Int)(x y:Ex)(ao:Option G1)(cap ar:Nat)(w:GE)(o:Nat->Nat)(rb:Nat)(p0 p1 p2 p3 p4:GJ)(lv:List Int)(s:Dp)(m:Nat)(hn:n=1)(hN:(Fs.ex x (Fs.ex y .nil)).size<=N)(ho:okE nc ⟨21,n,nm,a,(Fs.ex x (Fs.ex y .nil))⟩)(f:skF K (Fs.ex x (Fs.ex y .nil)) 21 0)(I:lv.length=nc)(H:nc<=256)(ad:ar+(Fs.ex x (Fs.ex y .nil)).size<=1000000)(aa:(Fs.ex x (Fs.ex y .nil)).size<=100000)(S:SnO w o (Fs.ex x (Fs.ex y .nil)) ao)(B:s.ks.length=nc)(hz:s.sz m)(hm:m+(17*(Fs.ex x (Fs.ex y .nil)).size+16)<=100000000)(X:DX w o p4 lv)(h:DW w o rb p0 p1 p2 p3 p4 s) :
  GR GD 70 #[pt0 rb,exN ⟨21,n,nm,a,(Fs.ex x (Fs.ex y .nil))⟩ ao cap,.int .i64 ar] w (fD w o rb p0 p1 p2 p3 p4 (lI lv n (deE lv x) (deE lv y) ar s) (.tuple #[])):=by
 have j:=ho.2;simp only at j;have ox:=(eo j).1;have oy:=(eo (eo j).2).1;have q:22<=x.k/\x.k<=25:=f.1.2 ⟨rfl,rfl⟩;have sx:=f.2.2.1;have sy:skE K y:=⟨λhs=>absurd (f.2.2.2.1.1 hs).2 (by omega),f.2.2.2.2.1,f.2.2.2.2.2.1⟩;simp only[eC,Fs.size] at hN ad aa hm;obtain⟨w1,o1,g,i,HG,B1,Z,Y,u,S0⟩:=gr #[.int .i64 21,.int .i64 n,stv nm,.slice ao (Fs.ex x (Fs.ex y .nil)).len cap] h X S;have v:=gp B1;obtain⟨c0,c1,c2,c3⟩:=v.out _ _ (dQ.refl I17 w1 o1);obtain⟨z,-⟩:=Z.cl;have T1:=dQ.refl I17 w1 o1;clear B1 h X S;rw[dS];simp only;obtain⟨b,off,ak,ck,ae,NN,Sx,NK⟩:=ic (x:=.nil) u 0 rfl;obtain⟨b1,ah,M,L,p,ag,Sy,R⟩:=ic (x:=one x) u 1 rfl;subst ae;injection p with p
 injection p with e1 e2
 subst e1 e2;have l:(Fs.ex x (Fs.ex y .nil)).len=2:=rfl;rw[l] at i v c3 ⊢;obtain⟨x0,x1,x2,x3⟩:Nd4 w1 b off x ak ck:=NN;have D:=oN K nc N T x.k x.n x.nm x.a x.kids ak ck ar w1 o1 rb p0 p1 p2 p3 p4 lv s m q (by omega) ox sx I H (by omega) (by omega) Sx B hz (by omega) Y Z;rw[<-mF q] at D;rw[dS] at D;have dA:=fg lv x ar s;unfold lI
 dsimp only
 generalize deE lv x ar s=A at *;have zA:=dA.sz m hz;obtain⟨d,t⟩:=exq (iG n A);rw[<-t];have hB:d=A:=by rw[t];rcases hn with rfl<;>rfl
 have dB:Dle 4 A d:=by rw[t];exact kQ n A
 have zB:=dB.sz _ zA;have kB:d.ks.length=nc:=(dB.ks.trans dA.ks).trans B;subst hB;clear t dA dB hz B;by_cases r:d.lg=true
 ·rw[if_pos r];have T:=0;clear T;clear Sx Sy NK R ag j ox oy sx sy q f ho zA zB kB Y u z l Z;subst hn;go_enter Ja,IZ;go_upto_region 1 with fail;rw[<-i,<-HG.out];clear i;go_wp2_with fail;refine D.mono ?_;rintro e w2 ⟨rfl,U,G,Q⟩;have P:=T1.trans Q;clear Q c0 c1 c2 c3 x0 x1 x2 x3 D;obtain⟨c0,c1,c2,c3⟩:=v.out _ _ P;obtain⟨z,-⟩:=G.cl;rw[r] at z;go_wp2
  go_end0
  exact⟨rfl,U,G,S0.trans P⟩
 ·rw[if_neg r];have ab:d.lg=false:=by simpa using r
  have hP:=λwx c E=>ez wx c rb p0 p1 p2 p3 p4 d 24 0 0 E;have dP:=dV d 24 0 0;have W:=jf (ar+1) lv 0 (d.puts 24 0 0);have zC:=W.sz _ (dP.sz _ zB);have kC:=(W.ks.trans dP.ks).trans kB;have hC:=λwx c X E=>kf ar wx c rb p0 p1 p2 p3 p4 lv (d.puts 24 0 0) (by omega) (by omega) X E;generalize ju (ar+1) lv 0 (d.puts 24 0 0)=C at *;have V:=λwx c S X E=>T y M L (ar+1) wx c rb p0 p1 p2 p3 p4 lv C _ (by omega) oy sy I H (by omega) (by omega) S kC zC (by omega) X E;simp only[dS] at V;rw[show ((ar+1:Nat):Int)=(ar:Int)+1 from rfl] at V;have dE:=fg lv y (ar+1) C;generalize deE lv y (ar+1) C=F at *;have zF:=dE.sz _ zC;have lF:F.lg=false->d.at1<F.ws.length:=hS (W.trans dE);generalize ac:d.at1=iB at *;generalize J:d.ws.length=gB at *;have af:∀ wx c,DW wx c rb p0 p1 p2 p3 p4 d->∃ao cap,wx.cell? ⟨rb,8,GA⟩=GB (.slice ao gB cap):=λwx c E=>by rw[<-J];exact E.ll
  have gA:=λwx c E=>CT gB iB wx c rb p0 p1 p2 p3 p4 F _ zF (by omega) lF E;clear lF zF dE zC W dP;subst hn;rw[if_pos (by omega)];clear j ox oy sx sy q f ho zA zB kB kC T ac J z l Z u;go_enter Ja,IZ;go_upto_region 1 with fail;rw[<-i,<-HG.out];clear i;go_wp2_with fail;refine D.mono ?_;rintro e w2 ⟨rfl,U,G,Q⟩;have P:=T1.trans Q;clear Q c0 c1 c2 c3 x0 x1 x2 x3 D;obtain⟨c0,c1,c2,c3⟩:=v.out _ _ P;obtain⟨z,-⟩:=G.cl;rw[ab] at z;obtain⟨al,cl,l8⟩:=af w2 U G;go_wp2_with fail;refine(hP w2 U G).mono ?_;rintro e w3 ⟨rfl,o3,E3,S3⟩;have T3:=P.trans S3;clear S3 c0 c1 c2 c3 hP z l8;obtain⟨c0,c1,c2,c3⟩:=v.out _ _ T3;go_wp2_with fail;refine(hC w3 o3 (Y.step T3 dZ) E3).mono ?_;rintro e w4 ⟨rfl,o4,E4,S4⟩;have O:=T3.trans S4;clear S4 c0 c1 c2 c3 hC;obtain⟨c0,c1,c2,c3⟩:=v.out _ _ O;obtain⟨y0,y1,y2,y3⟩:Nd8 w4 b off y M L:=R O dZ;have HY:=V w4 o4 (Sy.stepO O dZ) (Y.step O dZ) E4;go_wp2_with fail;refine HY.mono ?_;rintro e w5 ⟨rfl,o5,E5,S5⟩;have T5:=O.trans S5;clear S5 c0 c1 c2 c3 y0 y1 y2 y3 HY V;obtain⟨c0,c1,c2,c3⟩:=v.out _ _ T5;go_wp2_with fail;refine(gA w5 o5 E5).mono ?_;rintro e w6 ⟨rfl,o6,E6,S6⟩;have T6:=T5.trans S6;clear S6 c0 c1 c2 c3 gA;obtain⟨c0,c1,c2,c3⟩:=v.out _ _ T6;go_wp2
  go_end0
  exact⟨rfl,o6,E6,S0.trans T6⟩
theorem Dq (K:Nat->Int)(nc N:Nat)(T:iz K nc N)(n:Int)(nm:List UInt8)(a:Int)(x y:Ex)(ao:Option G1)(cap ar:Nat)(w:GE)(o:Nat->Nat)(rb:Nat)(p0 p1 p2 p3 p4:GJ)(lv:List Int)(s:Dp)(m:Nat)(hn:n=2)(hN:(Fs.ex x (Fs.ex y .nil)).size<=N)(ho:okE nc ⟨21,n,nm,a,(Fs.ex x (Fs.ex y .nil))⟩)(f:skF K (Fs.ex x (Fs.ex y .nil)) 21 0)(I:lv.length=nc)(H:nc<=256)(ad:ar+(Fs.ex x (Fs.ex y .nil)).size<=1000000)(aa:(Fs.ex x (Fs.ex y .nil)).size<=100000)(S:SnO w o (Fs.ex x (Fs.ex y .nil)) ao)(B:s.ks.length=nc)(hz:s.sz m)(hm:m+(17*(Fs.ex x (Fs.ex y .nil)).size+16)<=100000000)(X:DX w o p4 lv)(h:DW w o rb p0 p1 p2 p3 p4 s) :
  GR GD 70 #[pt0 rb,exN ⟨21,n,nm,a,(Fs.ex x (Fs.ex y .nil))⟩ ao cap,.int .i64 ar] w (fD w o rb p0 p1 p2 p3 p4 (lI lv n (deE lv x) (deE lv y) ar s) (.tuple #[])):=by
 have j:=ho.2;simp only at j;have ox:=(eo j).1;have oy:=(eo (eo j).2).1;have q:22<=x.k/\x.k<=25:=f.1.2 ⟨rfl,rfl⟩;have sx:=f.2.2.1;have sy:skE K y:=⟨λhs=>absurd (f.2.2.2.1.1 hs).2 (by omega),f.2.2.2.2.1,f.2.2.2.2.2.1⟩;simp only[eC,Fs.size] at hN ad aa hm;obtain⟨w1,o1,g,i,HG,B1,Z,Y,u,S0⟩:=gr #[.int .i64 21,.int .i64 n,stv nm,.slice ao (Fs.ex x (Fs.ex y .nil)).len cap] h X S;have v:=gp B1;obtain⟨c0,c1,c2,c3⟩:=v.out _ _ (dQ.refl I17 w1 o1);obtain⟨z,-⟩:=Z.cl;have T1:=dQ.refl I17 w1 o1;clear B1 h X S;rw[dS];simp only;obtain⟨b,off,ak,ck,ae,NN,Sx,NK⟩:=ic (x:=.nil) u 0 rfl;obtain⟨b1,ah,M,L,p,ag,Sy,R⟩:=ic (x:=one x) u 1 rfl;subst ae;injection p with p
 injection p with e1 e2
 subst e1 e2;have l:(Fs.ex x (Fs.ex y .nil)).len=2:=rfl;rw[l] at i v c3 ⊢;obtain⟨x0,x1,x2,x3⟩:Nd4 w1 b off x ak ck:=NN;have D:=oN K nc N T x.k x.n x.nm x.a x.kids ak ck ar w1 o1 rb p0 p1 p2 p3 p4 lv s m q (by omega) ox sx I H (by omega) (by omega) Sx B hz (by omega) Y Z;rw[<-mF q] at D;rw[dS] at D;have dA:=fg lv x ar s;unfold lI
 dsimp only
 generalize deE lv x ar s=A at *;have zA:=dA.sz m hz;obtain⟨d,t⟩:=exq (iG n A);rw[<-t];have hB:d=A:=by rw[t];rcases hn with rfl<;>rfl
 have dB:Dle 4 A d:=by rw[t];exact kQ n A
 have zB:=dB.sz _ zA;have kB:d.ks.length=nc:=(dB.ks.trans dA.ks).trans B;subst hB;clear t dA dB hz B;by_cases r:d.lg=true
 ·rw[if_pos r];have T:=0;clear T;clear Sx Sy NK R ag j ox oy sx sy q f ho zA zB kB Y u z l Z;subst hn;go_enter Ja,IZ;go_upto_region 1 with fail;rw[<-i,<-HG.out];clear i;go_wp2_with fail;refine D.mono ?_;rintro e w2 ⟨rfl,U,G,Q⟩;have P:=T1.trans Q;clear Q c0 c1 c2 c3 x0 x1 x2 x3 D;obtain⟨c0,c1,c2,c3⟩:=v.out _ _ P;obtain⟨z,-⟩:=G.cl;rw[r] at z;go_wp2
  go_end0
  exact⟨rfl,U,G,S0.trans P⟩
 ·rw[if_neg r];have ab:d.lg=false:=by simpa using r
  have hP:=λwx c E=>ez wx c rb p0 p1 p2 p3 p4 d 24 0 0 E;have dP:=dV d 24 0 0;have W:=jf (ar+1) lv 0 (d.puts 24 0 0);have zC:=W.sz _ (dP.sz _ zB);have kC:=(W.ks.trans dP.ks).trans kB;have hC:=λwx c X E=>kf ar wx c rb p0 p1 p2 p3 p4 lv (d.puts 24 0 0) (by omega) (by omega) X E;generalize ju (ar+1) lv 0 (d.puts 24 0 0)=C at *;have V:=λwx c S X E=>T y M L (ar+1) wx c rb p0 p1 p2 p3 p4 lv C _ (by omega) oy sy I H (by omega) (by omega) S kC zC (by omega) X E;simp only[dS] at V;rw[show ((ar+1:Nat):Int)=(ar:Int)+1 from rfl] at V;have dE:=fg lv y (ar+1) C;generalize deE lv y (ar+1) C=F at *;have zF:=dE.sz _ zC;have lF:F.lg=false->d.at1<F.ws.length:=hS (W.trans dE);generalize ac:d.at1=iB at *;generalize J:d.ws.length=gB at *;have af:∀ wx c,DW wx c rb p0 p1 p2 p3 p4 d->∃ao cap,wx.cell? ⟨rb,8,GA⟩=GB (.slice ao gB cap):=λwx c E=>by rw[<-J];exact E.ll
  have gA:=λwx c E=>Cj gB iB wx c rb p0 p1 p2 p3 p4 F _ zF (by omega) lF E;clear lF zF dE zC W dP;subst hn;rw[if_pos (by omega)];clear j ox oy sx sy q f ho zA zB kB kC T ac J z l Z u;go_enter Ja,IZ;go_upto_region 1 with fail;rw[<-i,<-HG.out];clear i;go_wp2_with fail;refine D.mono ?_;rintro e w2 ⟨rfl,U,G,Q⟩;have P:=T1.trans Q;clear Q c0 c1 c2 c3 x0 x1 x2 x3 D;obtain⟨c0,c1,c2,c3⟩:=v.out _ _ P;obtain⟨z,-⟩:=G.cl;rw[ab] at z;obtain⟨al,cl,l8⟩:=af w2 U G;go_wp2_with fail;refine(hP w2 U G).mono ?_;rintro e w3 ⟨rfl,o3,E3,S3⟩;have T3:=P.trans S3;clear S3 c0 c1 c2 c3 hP z l8;obtain⟨c0,c1,c2,c3⟩:=v.out _ _ T3;go_wp2_with fail;refine(hC w3 o3 (Y.step T3 dZ) E3).mono ?_;rintro e w4 ⟨rfl,o4,E4,S4⟩;have O:=T3.trans S4;clear S4 c0 c1 c2 c3 hC;obtain⟨c0,c1,c2,c3⟩:=v.out _ _ O;obtain⟨y0,y1,y2,y3⟩:Nd8 w4 b off y M L:=R O dZ;have HY:=V w4 o4 (Sy.stepO O dZ) (Y.step O dZ) E4;go_wp2_with fail;refine HY.mono ?_;rintro e w5 ⟨rfl,o5,E5,S5⟩;have T5:=O.trans S5;clear S5 c0 c1 c2 c3 y0 y1 y2 y3 HY V;obtain⟨c0,c1,c2,c3⟩:=v.out _ _ T5;go_wp2_with fail;refine(gA w5 o5 E5).mono ?_;rintro e w6 ⟨rfl,o6,E6,S6⟩;have T6:=T5.trans S6;clear S6 c0 c1 c2 c3 gA;obtain⟨c0,c1,c2,c3⟩:=v.out _ _ T6;go_wp2
  go_end0
  exact⟨rfl,o6,E6,S0.trans T6⟩
theorem Di (K:Nat->Int)(nc N:Nat)(HP:iz K nc N)(n:Int)(nm:List UInt8)(a:Int)(x y:Ex)(ao:Option G1)(cap ar:Nat)(w:GE)(o:Nat->Nat)(rb:Nat)(p0 p1 p2 p3 p4:GJ)(lv:List Int)(s:Dp)(m:Nat)(hn:n=3)(hN:(Fs.ex x (Fs.ex y .nil)).size<=N)(ho:okE nc ⟨21,n,nm,a,(Fs.ex x (Fs.ex y .nil))⟩)(j:skF K (Fs.ex x (Fs.ex y .nil)) 21 0)(L:lv.length=nc)(J:nc<=256)(ax:ar+(Fs.ex x (Fs.ex y .nil)).size<=1000000)(au:(Fs.ex x (Fs.ex y .nil)).size<=100000)(S:SnO w o (Fs.ex x (Fs.ex y .nil)) ao)(G:s.ks.length=nc)(hz:s.sz m)(hm:m+(17*(Fs.ex x (Fs.ex y .nil)).size+16)<=100000000)(X:DX w o p4 lv)(h:DW w o rb p0 p1 p2 p3 p4 s) :
  GR GD 70 #[pt0 rb,exN ⟨21,n,nm,a,(Fs.ex x (Fs.ex y .nil))⟩ ao cap,.int .i64 ar] w (fD w o rb p0 p1 p2 p3 p4 (lI lv n (deE lv x) (deE lv y) ar s) (.tuple #[])):=by
 have p:=ho.2;simp only at p;have ox:=(eo p).1;have oy:=(eo (eo p).2).1;have t:22<=x.k/\x.k<=25:=j.1.2 ⟨rfl,rfl⟩;have sx:=j.2.2.1;have sy:skE K y:=⟨λhs=>absurd (j.2.2.2.1.1 hs).2 (by omega),j.2.2.2.2.1,j.2.2.2.2.2.1⟩;simp only[eC,Fs.size] at hN ax au hm;obtain⟨w1,o1,g,l,HG,B1,E1,X1,z,S0⟩:=gr #[.int .i64 21,.int .i64 n,stv nm,.slice ao (Fs.ex x (Fs.ex y .nil)).len cap] h X S;have f:=gp B1;obtain⟨c0,c1,c2,c3⟩:=f.out _ _ (dQ.refl I17 w1 o1);obtain⟨D,-⟩:=E1.cl;have T1:=dQ.refl I17 w1 o1;clear B1 h X S;rw[dS];simp only;obtain⟨b,off,ak,ck,ay,NN,Sx,NK⟩:=ic (x:=.nil) z 0 rfl;obtain⟨b1,aF,T,R,r,aA,Sy,ag⟩:=ic (x:=one x) z 1 rfl;subst ay;injection r with r
 injection r with e1 e2
 subst e1 e2;have q:(Fs.ex x (Fs.ex y .nil)).len=2:=rfl;rw[q] at l f c3 ⊢;obtain⟨x0,x1,x2,x3⟩:Nd4 w1 b off x ak ck:=NN;have H:=oN K nc N HP x.k x.n x.nm x.a x.kids ak ck ar w1 o1 rb p0 p1 p2 p3 p4 lv s m t (by omega) ox sx L J (by omega) (by omega) Sx G hz (by omega) X1 E1;rw[<-mF t] at H;rw[dS] at H;have dA:=fg lv x ar s;unfold lI
 dsimp only
 generalize deE lv x ar s=A at *;have zA:=dA.sz m hz;obtain⟨i,v⟩:=exq (iG n A);rw[<-v];have hB:i=(A.val 0 1):=by rw[v];rcases hn with rfl<;>rfl
 have dB:Dle 4 A i:=by rw[v];exact kQ n A
 have zB:=dB.sz _ zA;have kB:i.ks.length=nc:=(dB.ks.trans dA.ks).trans G;have P:=λwx c E=>gN wx c rb p0 p1 p2 p3 p4 A 0 1 _ zA (by omega) E;rw[<-hB] at P;clear v dA dB hz G;by_cases u:i.lg=true
 ·rw[if_pos u];have HP:=0;clear HP;clear Sx Sy NK ag aA p ox oy sx sy t j ho zA zB kB X1 z D q E1;subst hn;go_enter Ja,IZ;go_upto_region 1 with fail;rw[<-l,<-HG.out];clear l;go_wp2_with fail;refine H.mono ?_;rintro e w2 ⟨rfl,o2,E2,S2⟩;have W:=T1.trans S2;clear S2 c0 c1 c2 c3 x0 x1 x2 x3 H;obtain⟨c0,c1,c2,c3⟩:=f.out _ _ W;go_wp2_with fail;refine(P w2 o2 E2).mono ?_;rintro e w3 ⟨rfl,o3,I,S3⟩;have V:=W.trans S3;clear S3 c0 c1 c2 c3 P;obtain⟨c0,c1,c2,c3⟩:=f.out _ _ V;obtain⟨D,-⟩:=I.cl;rw[u] at D;go_wp2
  go_end0
  exact⟨rfl,o3,I,S0.trans V⟩
 ·rw[if_neg u];have av:i.lg=false:=by simpa using u
  have hP:=λwx c E=>ez wx c rb p0 p1 p2 p3 p4 i 24 0 0 E;have dP:=dV i 24 0 0;have dC:=jf (ar+1) lv 0 (i.puts 24 0 0);have zC:=dC.sz _ (dP.sz _ zB);have kC:=(dC.ks.trans dP.ks).trans kB;have hC:=λwx c X E=>kf ar wx c rb p0 p1 p2 p3 p4 lv (i.puts 24 0 0) (by omega) (by omega) X E;generalize ju (ar+1) lv 0 (i.puts 24 0 0)=C at *;have hY:=λwx c S X E=>HP y T R (ar+1) wx c rb p0 p1 p2 p3 p4 lv C _ (by omega) oy sy L J (by omega) (by omega) S kC zC (by omega) X E;simp only[dS] at hY;rw[show ((ar+1:Nat):Int)=(ar:Int)+1 from rfl] at hY;have dE:=fg lv y (ar+1) C;generalize deE lv y (ar+1) C=F at *;have zF:=dE.sz _ zC;have lF:F.lg=false->i.at1<F.ws.length:=hS (dC.trans dE);generalize aw:i.at1=iB at *;generalize O:i.ws.length=d at *;have az:∀ wx c,DW wx c rb p0 p1 p2 p3 p4 i->∃ao cap,wx.cell? ⟨rb,8,GA⟩=GB (.slice ao d cap):=λwx c E=>by rw[<-O];exact E.ll
  have gA:=λwx c E=>ez wx c rb p0 p1 p2 p3 p4 F 14 d 0 E;have z1:=(dV F 14 d 0).sz _ zF;have gC:=λwx c E=>eK wx c rb p0 p1 p2 p3 p4 _ (-1) _ z1 (by omega) (by omega) E;have d1:=eu (F.puts 14 d 0) (-1) 1 (by omega) (by omega);have z2:=d1.sz _ z1;have gD:=λwx c E=>gN wx c rb p0 p1 p2 p3 p4 ((F.puts 14 d 0).grows (-1)) 1 1 _ z2 (by omega) E;have gE:=λwx c E=>ez wx c rb p0 p1 p2 p3 p4 (((F.puts 14 d 0).grows (-1)).val 1 1) 6 0 0 E;have z3:=(dV _ 6 0 0).sz _ ((fd ((F.puts 14 d 0).grows (-1)) 1 1).sz _ z2);have gF:=λwx c E=>eK wx c rb p0 p1 p2 p3 p4 _ (-1) _ z3 (by omega) (by omega) E;have dM:=nS 3 d F;generalize hM:pG 3 d F=M at *;have Q:(((((F.puts 14 d 0).grows (-1)).val 1 1).puts 6 0 0).grows (-1))=M:=hM;rw[Q] at gF;have gG:=λwx c E=>ez wx c rb p0 p1 p2 p3 p4 M 13 d 0 E;have lM:(M.puts 13 d 0).lg=false->iB<(M.puts 13 d 0).ws.length:=λhl=>GM (lF (by cases hs:F.lg with|false=>rfl|true=>rw[(dM.trans (dV M 13 d 0)).lg hs] at hl;cases hl)) (dM.trans (dV M 13 d 0)).w2;have gH:=λwx c E=>fW wx c rb p0 p1 p2 p3 p4 (M.puts 13 d 0) iB lM E;clear z1 z2 z3 d1 dM lM lF zF dE zC dC dP;subst hn;rw[if_neg (by omega)];have B:pH 3 d iB F=(M.puts 13 d 0).lands iB:=by rw[<-hM];rfl
  rw[B];clear B hM Q;clear p ox oy sx sy t j ho zA zB kB kC HP aw O D q E1 z;go_enter Ja,IZ;go_upto_region 1 with fail;rw[<-l,<-HG.out];clear l;go_wp2_with fail;refine H.mono ?_;rintro e w2 ⟨rfl,o2,E2,S2⟩;have W:=T1.trans S2;clear S2 c0 c1 c2 c3 x0 x1 x2 x3 H;obtain⟨c0,c1,c2,c3⟩:=f.out _ _ W;go_wp2_with fail;refine(P w2 o2 E2).mono ?_;rintro e w3 ⟨rfl,o3,I,S3⟩;have V:=W.trans S3;clear S3 c0 c1 c2 c3 P;obtain⟨c0,c1,c2,c3⟩:=f.out _ _ V;obtain⟨D,-⟩:=I.cl;rw[av] at D;obtain⟨al,cl,l8⟩:=az w3 o3 I;go_wp2_with fail;refine(hP w3 o3 I).mono ?_;rintro e w4 ⟨rfl,o4,E4,S4⟩;have T4:=V.trans S4;clear S4 c0 c1 c2 c3 hP D l8;obtain⟨c0,c1,c2,c3⟩:=f.out _ _ T4;go_wp2_with fail;refine(hC w4 o4 (X1.step T4 dZ) E4).mono ?_;rintro e w5 ⟨rfl,o5,E5,S5⟩;have U:=T4.trans S5;clear S5 c0 c1 c2 c3 hC;obtain⟨c0,c1,c2,c3⟩:=f.out _ _ U;obtain⟨y0,y1,y2,y3⟩:Nd8 w5 b off y T R:=ag U dZ;have HY:=hY w5 o5 (Sy.stepO U dZ) (X1.step U dZ) E5;go_wp2_with fail;refine HY.mono ?_;rintro e w6 ⟨rfl,o6,E6,S6⟩;have T6:=U.trans S6;clear S6 c0 c1 c2 c3 y0 y1 y2 y3 HY hY;obtain⟨c0,c1,c2,c3⟩:=f.out _ _ T6;go_wp2_with fail;refine(gA w6 o6 E6).mono ?_;rintro e w7 ⟨rfl,o7,E7,S7⟩;have T7:=T6.trans S7;clear S7 c0 c1 c2 c3 gA;obtain⟨c0,c1,c2,c3⟩:=f.out _ _ T7;go_wp2_with fail;refine(gC w7 o7 E7).mono ?_;rintro e w8 ⟨rfl,o8,E8,S8⟩;have T8:=T7.trans S8;clear S8 c0 c1 c2 c3 gC;obtain⟨c0,c1,c2,c3⟩:=f.out _ _ T8;go_wp2_with fail;refine(gD w8 o8 E8).mono ?_;rintro e w9 ⟨rfl,o9,E9,S9⟩;have T9:=T8.trans S9;clear S9 c0 c1 c2 c3 gD;obtain⟨c0,c1,c2,c3⟩:=f.out _ _ T9;go_wp2_with fail;refine(gE w9 o9 E9).mono ?_;rintro e aj ⟨rfl,aq,aE,af⟩;have ab:=T9.trans af;clear af c0 c1 c2 c3 gE;obtain⟨c0,c1,c2,c3⟩:=f.out _ _ ab;go_wp2_with fail;refine(gF aj aq aE).mono ?_;rintro e ai ⟨rfl,ap,aD,ae⟩;have aa:=ab.trans ae;clear ae c0 c1 c2 c3 gF;obtain⟨c0,c1,c2,c3⟩:=f.out _ _ aa;go_wp2_with fail;refine(gG ai ap aD).mono ?_;rintro e ah ⟨rfl,an,aC,ad⟩;have Z:=aa.trans ad;clear ad c0 c1 c2 c3 gG;obtain⟨c0,c1,c2,c3⟩:=f.out _ _ Z;go_wp2_with fail;refine(gH ah an aC).mono ?_;rintro e aG ⟨rfl,am,aB,ac⟩;have Y:=Z.trans ac;clear ac c0 c1 c2 c3 gH;obtain⟨c0,c1,c2,c3⟩:=f.out _ _ Y;go_wp2
  go_end0
  exact⟨rfl,am,aB,S0.trans Y⟩
theorem BK (K:Nat->Int)(nc N:Nat)(HP:iz K nc N)(n:Int)(nm:List UInt8)(a:Int)(x y:Ex)(ao:Option G1)(cap ar:Nat)(w:GE)(o:Nat->Nat)(rb:Nat)(p0 p1 p2 p3 p4:GJ)(lv:List Int)(s:Dp)(m:Nat)(hn:n=4)(hN:(Fs.ex x (Fs.ex y .nil)).size<=N)(ho:okE nc ⟨21,n,nm,a,(Fs.ex x (Fs.ex y .nil))⟩)(f:skF K (Fs.ex x (Fs.ex y .nil)) 21 0)(L:lv.length=nc)(J:nc<=256)(ag:ar+(Fs.ex x (Fs.ex y .nil)).size<=1000000)(ad:(Fs.ex x (Fs.ex y .nil)).size<=100000)(S:SnO w o (Fs.ex x (Fs.ex y .nil)) ao)(G:s.ks.length=nc)(hz:s.sz m)(hm:m+(17*(Fs.ex x (Fs.ex y .nil)).size+16)<=100000000)(X:DX w o p4 lv)(h:DW w o rb p0 p1 p2 p3 p4 s) :
  GR GD 70 #[pt0 rb,exN ⟨21,n,nm,a,(Fs.ex x (Fs.ex y .nil))⟩ ao cap,.int .i64 ar] w (fD w o rb p0 p1 p2 p3 p4 (lI lv n (deE lv x) (deE lv y) ar s) (.tuple #[])):=by
 have l:=ho.2;simp only at l;have ox:=(eo l).1;have oy:=(eo (eo l).2).1;have t:22<=x.k/\x.k<=25:=f.1.2 ⟨rfl,rfl⟩;have sx:=f.2.2.1;have sy:skE K y:=⟨λhs=>absurd (f.2.2.2.1.1 hs).2 (by omega),f.2.2.2.2.1,f.2.2.2.2.2.1⟩;simp only[eC,Fs.size] at hN ag ad hm;obtain⟨w1,o1,g,j,HG,B1,E1,X1,z,S0⟩:=gr #[.int .i64 21,.int .i64 n,stv nm,.slice ao (Fs.ex x (Fs.ex y .nil)).len cap] h X S;have i:=gp B1;obtain⟨c0,c1,c2,c3⟩:=i.out _ _ (dQ.refl I17 w1 o1);obtain⟨D,-⟩:=E1.cl;have T1:=dQ.refl I17 w1 o1;clear B1 h X S;rw[dS];simp only;obtain⟨b,off,ak,ck,ah,NN,Sx,NK⟩:=ic (x:=.nil) z 0 rfl;obtain⟨b1,an,T,R,q,aj,Sy,ab⟩:=ic (x:=one x) z 1 rfl;subst ah;injection q with q
 injection q with e1 e2
 subst e1 e2;have p:(Fs.ex x (Fs.ex y .nil)).len=2:=rfl;rw[p] at j i c3 ⊢;obtain⟨x0,x1,x2,x3⟩:Nd4 w1 b off x ak ck:=NN;have H:=oN K nc N HP x.k x.n x.nm x.a x.kids ak ck ar w1 o1 rb p0 p1 p2 p3 p4 lv s m t (by omega) ox sx L J (by omega) (by omega) Sx G hz (by omega) X1 E1;rw[<-mF t] at H;rw[dS] at H;have dA:=fg lv x ar s;unfold lI
 dsimp only
 generalize deE lv x ar s=A at *;have zA:=dA.sz m hz;obtain⟨d,v⟩:=exq (iG n A);rw[<-v];have hB:d=(A.val 0 1):=by rw[v];rcases hn with rfl<;>rfl
 have dB:Dle 4 A d:=by rw[v];exact kQ n A
 have zB:=dB.sz _ zA;have kB:d.ks.length=nc:=(dB.ks.trans dA.ks).trans G;have P:=λwx c E=>gN wx c rb p0 p1 p2 p3 p4 A 0 1 _ zA (by omega) E;rw[<-hB] at P;clear v dA dB hz G;by_cases u:d.lg=true
 ·rw[if_pos u];have HP:=0;clear HP;clear Sx Sy NK ab aj l ox oy sx sy t f ho zA zB kB X1 z D p E1;subst hn;go_enter Ja,IZ;go_upto_region 1 with fail;rw[<-j,<-HG.out];clear j;go_wp2_with fail;refine H.mono ?_;rintro e w2 ⟨rfl,o2,E2,S2⟩;have W:=T1.trans S2;clear S2 c0 c1 c2 c3 x0 x1 x2 x3 H;obtain⟨c0,c1,c2,c3⟩:=i.out _ _ W;go_wp2_with fail;refine(P w2 o2 E2).mono ?_;rintro e w3 ⟨rfl,o3,I,Z⟩;have V:=W.trans Z;clear Z c0 c1 c2 c3 P;obtain⟨c0,c1,c2,c3⟩:=i.out _ _ V;obtain⟨D,-⟩:=I.cl;rw[u] at D;go_wp2
  go_end0
  exact⟨rfl,o3,I,S0.trans V⟩
 ·rw[if_neg u];have ae:d.lg=false:=by simpa using u
  have hP:=λwx c E=>ez wx c rb p0 p1 p2 p3 p4 d 24 0 0 E;have dP:=dV d 24 0 0;have dC:=jf (ar+1) lv 0 (d.puts 24 0 0);have zC:=dC.sz _ (dP.sz _ zB);have kC:=(dC.ks.trans dP.ks).trans kB;have hC:=λwx c X E=>kf ar wx c rb p0 p1 p2 p3 p4 lv (d.puts 24 0 0) (by omega) (by omega) X E;generalize ju (ar+1) lv 0 (d.puts 24 0 0)=C at *;have hY:=λwx c S X E=>HP y T R (ar+1) wx c rb p0 p1 p2 p3 p4 lv C _ (by omega) oy sy L J (by omega) (by omega) S kC zC (by omega) X E;simp only[dS] at hY;rw[show ((ar+1:Nat):Int)=(ar:Int)+1 from rfl] at hY;have dE:=fg lv y (ar+1) C;generalize deE lv y (ar+1) C=F at *;have zF:=dE.sz _ zC;have lF:F.lg=false->d.at1<F.ws.length:=hS (dC.trans dE);generalize af:d.at1=iB at *;generalize O:d.ws.length=r at *;have ai:∀ wx c,DW wx c rb p0 p1 p2 p3 p4 d->∃ao cap,wx.cell? ⟨rb,8,GA⟩=GB (.slice ao r cap):=λwx c E=>by rw[<-O];exact E.ll
  have gA:=λwx c E=>ez wx c rb p0 p1 p2 p3 p4 F 6 0 0 E;have z1:=(dV F 6 0 0).sz _ zF;have gC:=λwx c E=>eK wx c rb p0 p1 p2 p3 p4 _ (-1) _ z1 (by omega) (by omega) E;have dM:=nS 4 r F;generalize hM:pG 4 r F=M at *;have Q:((F.puts 6 0 0).grows (-1))=M:=hM;rw[Q] at gC;have gG:=λwx c E=>ez wx c rb p0 p1 p2 p3 p4 M 13 r 0 E;have lM:(M.puts 13 r 0).lg=false->iB<(M.puts 13 r 0).ws.length:=λhl=>GM (lF (by cases hs:F.lg with|false=>rfl|true=>rw[(dM.trans (dV M 13 r 0)).lg hs] at hl;cases hl)) (dM.trans (dV M 13 r 0)).w2;have gH:=λwx c E=>fW wx c rb p0 p1 p2 p3 p4 (M.puts 13 r 0) iB lM E;clear z1 dM lM lF zF dE zC dC dP;subst hn;rw[if_neg (by omega)];have B:pH 4 r iB F=(M.puts 13 r 0).lands iB:=by rw[<-hM];rfl
  rw[B];clear B hM Q;clear l ox oy sx sy t f ho zA zB kB kC HP af O D p E1 z;go_enter Ja,IZ;go_upto_region 1 with fail;rw[<-j,<-HG.out];clear j;go_wp2_with fail;refine H.mono ?_;rintro e w2 ⟨rfl,o2,E2,S2⟩;have W:=T1.trans S2;clear S2 c0 c1 c2 c3 x0 x1 x2 x3 H;obtain⟨c0,c1,c2,c3⟩:=i.out _ _ W;go_wp2_with fail;refine(P w2 o2 E2).mono ?_;rintro e w3 ⟨rfl,o3,I,Z⟩;have V:=W.trans Z;clear Z c0 c1 c2 c3 P;obtain⟨c0,c1,c2,c3⟩:=i.out _ _ V;obtain⟨D,-⟩:=I.cl;rw[ae] at D;obtain⟨al,cl,l8⟩:=ai w3 o3 I;go_wp2_with fail;refine(hP w3 o3 I).mono ?_;rintro e w4 ⟨rfl,o4,E4,S4⟩;have T4:=V.trans S4;clear S4 c0 c1 c2 c3 hP D l8;obtain⟨c0,c1,c2,c3⟩:=i.out _ _ T4;go_wp2_with fail;refine(hC w4 o4 (X1.step T4 dZ) E4).mono ?_;rintro e w5 ⟨rfl,o5,E5,S5⟩;have U:=T4.trans S5;clear S5 c0 c1 c2 c3 hC;obtain⟨c0,c1,c2,c3⟩:=i.out _ _ U;obtain⟨y0,y1,y2,y3⟩:Nd8 w5 b off y T R:=ab U dZ;have HY:=hY w5 o5 (Sy.stepO U dZ) (X1.step U dZ) E5;go_wp2_with fail;refine HY.mono ?_;rintro e w6 ⟨rfl,o6,E6,S6⟩;have T6:=U.trans S6;clear S6 c0 c1 c2 c3 y0 y1 y2 y3 HY hY;obtain⟨c0,c1,c2,c3⟩:=i.out _ _ T6;go_wp2_with fail;refine(gA w6 o6 E6).mono ?_;rintro e w7 ⟨rfl,o7,E7,S7⟩;have T7:=T6.trans S7;clear S7 c0 c1 c2 c3 gA;obtain⟨c0,c1,c2,c3⟩:=i.out _ _ T7;go_wp2_with fail;refine(gC w7 o7 E7).mono ?_;rintro e w8 ⟨rfl,o8,E8,S8⟩;have T8:=T7.trans S8;clear S8 c0 c1 c2 c3 gC;obtain⟨c0,c1,c2,c3⟩:=i.out _ _ T8;go_wp2_with fail;refine(gG w8 o8 E8).mono ?_;rintro e w9 ⟨rfl,o9,E9,S9⟩;have T9:=T8.trans S9;clear S9 c0 c1 c2 c3 gG;obtain⟨c0,c1,c2,c3⟩:=i.out _ _ T9;go_wp2_with fail;refine(gH w9 o9 E9).mono ?_;rintro e ap ⟨rfl,ac,am,aa⟩;have Y:=T9.trans aa;clear aa c0 c1 c2 c3 gH;obtain⟨c0,c1,c2,c3⟩:=i.out _ _ Y;go_wp2
  go_end0
  exact⟨rfl,ac,am,S0.trans Y⟩
theorem DA (K:Nat->Int)(nc N:Nat)(HP:iz K nc N)(n:Int)(nm:List UInt8)(a:Int)(x y:Ex)(ao:Option G1)(cap ar:Nat)(w:GE)(o:Nat->Nat)(rb:Nat)(p0 p1 p2 p3 p4:GJ)(lv:List Int)(s:Dp)(m:Nat)(hn:n=5\/n=6)(hN:(Fs.ex x (Fs.ex y .nil)).size<=N)(ho:okE nc ⟨21,n,nm,a,(Fs.ex x (Fs.ex y .nil))⟩)(j:skF K (Fs.ex x (Fs.ex y .nil)) 21 0)(ax:lv.length=nc)(aw:nc<=256)(aF:ar+(Fs.ex x (Fs.ex y .nil)).size<=1000000)(aD:(Fs.ex x (Fs.ex y .nil)).size<=100000)(S:SnO w o (Fs.ex x (Fs.ex y .nil)) ao)(ah:s.ks.length=nc)(hz:s.sz m)(hm:m+(17*(Fs.ex x (Fs.ex y .nil)).size+16)<=100000000)(X:DX w o p4 lv)(h:DW w o rb p0 p1 p2 p3 p4 s) :
  GR GD 70 #[pt0 rb,exN ⟨21,n,nm,a,(Fs.ex x (Fs.ex y .nil))⟩ ao cap,.int .i64 ar] w (fD w o rb p0 p1 p2 p3 p4 (lI lv n (deE lv x) (deE lv y) ar s) (.tuple #[])):=by
 have q:=ho.2;simp only at q;have ox:=(eo q).1;have oy:=(eo (eo q).2).1;have Q:22<=x.k/\x.k<=25:=j.1.2 ⟨rfl,rfl⟩;have sx:=j.2.2.1;have sy:skE K y:=⟨λhs=>absurd (j.2.2.2.1.1 hs).2 (by omega),j.2.2.2.2.1,j.2.2.2.2.2.1⟩;simp only[eC,Fs.size] at hN aF aD hm;obtain⟨w1,o1,g,i,HG,B1,E1,X1,U,S0⟩:=gr #[.int .i64 21,.int .i64 n,stv nm,.slice ao (Fs.ex x (Fs.ex y .nil)).len cap] h X S;have d:=gp B1;obtain⟨c0,c1,c2,c3⟩:=d.out _ _ (dQ.refl I17 w1 o1);obtain⟨O,-⟩:=E1.cl;have T1:=dQ.refl I17 w1 o1;clear B1 h X S;rw[dS];simp only;obtain⟨b,off,ak,ck,aG,NN,Sx,NK⟩:=ic (x:=.nil) U 0 rfl;obtain⟨b1,aI,aj,ai,t,aH,Sy,am⟩:=ic (x:=one x) U 1 rfl;subst aG;injection t with t
 injection t with e1 e2
 subst e1 e2;have r:(Fs.ex x (Fs.ex y .nil)).len=2:=rfl;rw[r] at i d c3 ⊢;obtain⟨x0,x1,x2,x3⟩:Nd4 w1 b off x ak ck:=NN;have H1:=oN K nc N HP x.k x.n x.nm x.a x.kids ak ck ar w1 o1 rb p0 p1 p2 p3 p4 lv s m Q (by omega) ox sx ax aw (by omega) (by omega) Sx ah hz (by omega) X1 E1;rw[<-mF Q] at H1;rw[dS] at H1;have dA:=fg lv x ar s;unfold lI
 dsimp only
 generalize deE lv x ar s=A at *;have zA:=dA.sz m hz;obtain⟨f,T⟩:=exq (iG n A);rw[<-T];have hB:f=((A.val 0 1).val 0 2):=by rw[T];rcases hn with rfl|rfl<;>rfl
 have dB:Dle 4 A f:=by rw[T];exact kQ n A
 have zB:=dB.sz _ zA;have kB:f.ks.length=nc:=(dB.ks.trans dA.ks).trans ah;have hV:=λwx c E=>gN wx c rb p0 p1 p2 p3 p4 A 0 1 _ zA (by omega) E;have l:=λwx c E=>gN wx c rb p0 p1 p2 p3 p4 (A.val 0 1) 0 2 _ ((fd A 0 1).sz _ zA) (by omega) E;rw[<-hB] at l;clear T dA dB hz ah;by_cases R:f.lg=true
 ·rw[if_pos R];have HP:=0;clear HP;clear Sx Sy NK am aH q ox oy sx sy Q j ho zA zB kB X1 U O r E1;rcases hn with rfl|rfl
  all_goals
   go_enter Ja,IZ;go_upto_region 1 with fail;rw[<-i,<-HG.out];clear i;go_wp2_with fail;refine H1.mono ?_;rintro e w2 ⟨rfl,o2,E2,S2⟩;have Y:=T1.trans S2;clear S2 c0 c1 c2 c3 x0 x1 x2 x3 H1;obtain⟨c0,c1,c2,c3⟩:=d.out _ _ Y;go_wp2_with fail;refine(hV w2 o2 E2).mono ?_;rintro e w3 ⟨rfl,o3,E3,S3⟩;have W:=Y.trans S3;clear S3 c0 c1 c2 c3 hV;obtain⟨c0,c1,c2,c3⟩:=d.out _ _ W;go_wp2_with fail;refine(l w3 o3 E3).mono ?_;rintro e w4 ⟨rfl,o4,P,Z⟩;have V:=W.trans Z;clear Z c0 c1 c2 c3 l;obtain⟨c0,c1,c2,c3⟩:=d.out _ _ V;obtain⟨O,-⟩:=P.cl;rw[R] at O;go_wp2
   go_end0
   exact⟨rfl,o4,P,S0.trans V⟩
 ·rw[if_neg R];have ay:f.lg=false:=by simpa using R
  have hP:=λwx c E=>ez wx c rb p0 p1 p2 p3 p4 f 24 0 0 E;have dP:=dV f 24 0 0;have dC:=jf (ar+1) lv 0 (f.puts 24 0 0);have zC:=dC.sz _ (dP.sz _ zB);have kC:=(dC.ks.trans dP.ks).trans kB;have hC:=λwx c X E=>kf ar wx c rb p0 p1 p2 p3 p4 lv (f.puts 24 0 0) (by omega) (by omega) X E;generalize ju (ar+1) lv 0 (f.puts 24 0 0)=C at *;have hY:=λwx c S X E=>HP y aj ai (ar+1) wx c rb p0 p1 p2 p3 p4 lv C _ (by omega) oy sy ax aw (by omega) (by omega) S kC zC (by omega) X E;simp only[dS] at hY;rw[show ((ar+1:Nat):Int)=(ar:Int)+1 from rfl] at hY;have dE:=fg lv y (ar+1) C;generalize deE lv y (ar+1) C=F at *;have zF:=dE.sz _ zC;have lF:F.lg=false->f.at1<F.ws.length:=hS (dC.trans dE);generalize aE:f.at1=iB at *;generalize az:f.ws.length=p at *;have aB:∀ wx c,DW wx c rb p0 p1 p2 p3 p4 f->∃ao cap,wx.cell? ⟨rb,8,GA⟩=GB (.slice ao p cap):=λwx c E=>by rw[<-az];exact E.ll
  obtain⟨v,hv⟩:=exq ((n-5).toNat);have gA:=λwx c E=>ez wx c rb p0 p1 p2 p3 p4 F 26 v 0 E;have z1:=(dV F 26 v 0).sz _ zF;have gC:=λwx c E=>eK wx c rb p0 p1 p2 p3 p4 _ (-1) _ z1 (by omega) (by omega) E;have dM:=nS n p F;have aA:((F.puts 26 v 0).grows (-1))=pG n p F:=by rw[hv];rcases hn with rfl|rfl<;>rfl
  unfold pH
  dsimp only
  generalize pG n p F=M at *;rw[aA] at gC;clear aA;have gG:=λwx c E=>ez wx c rb p0 p1 p2 p3 p4 M 13 p 0 E;have lM:(M.puts 13 p 0).lg=false->iB<(M.puts 13 p 0).ws.length:=λhl=>GM (lF (by cases hs:F.lg with|false=>rfl|true=>rw[(dM.trans (dV M 13 p 0)).lg hs] at hl;cases hl)) (dM.trans (dV M 13 p 0)).w2;have gH:=λwx c E=>fW wx c rb p0 p1 p2 p3 p4 (M.puts 13 p 0) iB lM E;have gI:=λwx c E=>ez wx c rb p0 p1 p2 p3 p4 ((M.puts 13 p 0).lands iB) 27 0 0 E;have z9:=(dV _ 27 0 0).sz _ ((eF _ iB).sz _ ((dV M 13 p 0).sz _ (dM.sz _ zF)));have gJ:=λwx c E=>eK wx c rb p0 p1 p2 p3 p4 _ (-1) _ z9 (by omega) (by omega) E;clear z9;clear z1 dM lM lF zF dE zC dC dP;rw[if_neg (show ¬(n=1\/n=2) by omega),if_pos (show 5<=n by omega)];clear q ox oy sx sy Q j ho zA zB kB kC HP aE az O r E1 U;have av:(v:Int)=n-5:=by omega
  rcases hn with rfl|rfl
  ·obtain rfl:v=0:=by omega
   clear av hv;go_enter Ja,IZ;go_upto_region 1 with fail;rw[<-i,<-HG.out];clear i;go_wp2_with fail;refine H1.mono ?_;rintro e w2 ⟨rfl,o2,E2,S2⟩;have Y:=T1.trans S2;clear S2 c0 c1 c2 c3 x0 x1 x2 x3 H1;obtain⟨c0,c1,c2,c3⟩:=d.out _ _ Y;go_wp2_with fail;refine(hV w2 o2 E2).mono ?_;rintro e w3 ⟨rfl,o3,E3,S3⟩;have W:=Y.trans S3;clear S3 c0 c1 c2 c3 hV;obtain⟨c0,c1,c2,c3⟩:=d.out _ _ W;go_wp2_with fail;refine(l w3 o3 E3).mono ?_;rintro e w4 ⟨rfl,o4,P,Z⟩;have V:=W.trans Z;clear Z c0 c1 c2 c3 l;obtain⟨c0,c1,c2,c3⟩:=d.out _ _ V;obtain⟨O,-⟩:=P.cl;rw[ay] at O;obtain⟨al,cl,l8⟩:=aB w4 o4 P;go_wp2_with fail;refine(hP w4 o4 P).mono ?_;rintro e w5 ⟨rfl,o5,E5,S5⟩;have T5:=V.trans S5;clear S5 c0 c1 c2 c3 hP O l8;obtain⟨c0,c1,c2,c3⟩:=d.out _ _ T5;go_wp2_with fail;refine(hC w5 o5 (X1.step T5 dZ) E5).mono ?_;rintro e w6 ⟨rfl,o6,E6,S6⟩;have u:=T5.trans S6;clear S6 c0 c1 c2 c3 hC;obtain⟨c0,c1,c2,c3⟩:=d.out _ _ u;obtain⟨y0,y1,y2,y3⟩:Nd8 w6 b off y aj ai:=am u dZ;have HY:=hY w6 o6 (Sy.stepO u dZ) (X1.step u dZ) E6;go_wp2_with fail;refine HY.mono ?_;rintro e w7 ⟨rfl,o7,E7,S7⟩;have T7:=u.trans S7;clear S7 c0 c1 c2 c3 y0 y1 y2 y3 HY hY;obtain⟨c0,c1,c2,c3⟩:=d.out _ _ T7;go_wp2_with fail;refine(gA w7 o7 E7).mono ?_;rintro e w8 ⟨rfl,o8,E8,S8⟩;have T8:=T7.trans S8;clear S8 c0 c1 c2 c3 gA;obtain⟨c0,c1,c2,c3⟩:=d.out _ _ T8;go_wp2_with fail;refine(gC w8 o8 E8).mono ?_;rintro e w9 ⟨rfl,o9,E9,S9⟩;have T9:=T8.trans S9;clear S9 c0 c1 c2 c3 gC;obtain⟨c0,c1,c2,c3⟩:=d.out _ _ T9;go_wp2_with fail;refine(gG w9 o9 E9).mono ?_;rintro e ac ⟨rfl,ag,au,L⟩;have G:=T9.trans L;clear L c0 c1 c2 c3 gG;obtain⟨c0,c1,c2,c3⟩:=d.out _ _ G;go_wp2_with fail;refine(gH ac ag au).mono ?_;rintro e ab ⟨rfl,af,aq,J⟩;have D:=G.trans J;clear J c0 c1 c2 c3 gH;obtain⟨c0,c1,c2,c3⟩:=d.out _ _ D;go_wp2_with fail;refine(gI ab af aq).mono ?_;rintro e aa ⟨rfl,ae,ap,I⟩;have B:=D.trans I;clear I c0 c1 c2 c3 gI;obtain⟨c0,c1,c2,c3⟩:=d.out _ _ B;go_wp2_with fail;refine(gJ aa ae ap).mono ?_;rintro e aC ⟨rfl,ad,an,H⟩;have z:=B.trans H;clear H c0 c1 c2 c3 gJ;obtain⟨c0,c1,c2,c3⟩:=d.out _ _ z;go_wp2
   go_end0
   exact⟨rfl,ad,an,S0.trans z⟩
  ·obtain rfl:v=1:=by omega
   clear av hv;go_enter Ja,IZ;go_upto_region 1 with fail;rw[<-i,<-HG.out];clear i;go_wp2_with fail;refine H1.mono ?_;rintro e w2 ⟨rfl,o2,E2,S2⟩;have Y:=T1.trans S2;clear S2 c0 c1 c2 c3 x0 x1 x2 x3 H1;obtain⟨c0,c1,c2,c3⟩:=d.out _ _ Y;go_wp2_with fail;refine(hV w2 o2 E2).mono ?_;rintro e w3 ⟨rfl,o3,E3,S3⟩;have W:=Y.trans S3;clear S3 c0 c1 c2 c3 hV;obtain⟨c0,c1,c2,c3⟩:=d.out _ _ W;go_wp2_with fail;refine(l w3 o3 E3).mono ?_;rintro e w4 ⟨rfl,o4,P,Z⟩;have V:=W.trans Z;clear Z c0 c1 c2 c3 l;obtain⟨c0,c1,c2,c3⟩:=d.out _ _ V;obtain⟨O,-⟩:=P.cl;rw[ay] at O;obtain⟨al,cl,l8⟩:=aB w4 o4 P;go_wp2_with fail;refine(hP w4 o4 P).mono ?_;rintro e w5 ⟨rfl,o5,E5,S5⟩;have T5:=V.trans S5;clear S5 c0 c1 c2 c3 hP O l8;obtain⟨c0,c1,c2,c3⟩:=d.out _ _ T5;go_wp2_with fail;refine(hC w5 o5 (X1.step T5 dZ) E5).mono ?_;rintro e w6 ⟨rfl,o6,E6,S6⟩;have u:=T5.trans S6;clear S6 c0 c1 c2 c3 hC;obtain⟨c0,c1,c2,c3⟩:=d.out _ _ u;obtain⟨y0,y1,y2,y3⟩:Nd8 w6 b off y aj ai:=am u dZ;have HY:=hY w6 o6 (Sy.stepO u dZ) (X1.step u dZ) E6;go_wp2_with fail;refine HY.mono ?_;rintro e w7 ⟨rfl,o7,E7,S7⟩;have T7:=u.trans S7;clear S7 c0 c1 c2 c3 y0 y1 y2 y3 HY hY;obtain⟨c0,c1,c2,c3⟩:=d.out _ _ T7;go_wp2_with fail;refine(gA w7 o7 E7).mono ?_;rintro e w8 ⟨rfl,o8,E8,S8⟩;have T8:=T7.trans S8;clear S8 c0 c1 c2 c3 gA;obtain⟨c0,c1,c2,c3⟩:=d.out _ _ T8;go_wp2_with fail;refine(gC w8 o8 E8).mono ?_;rintro e w9 ⟨rfl,o9,E9,S9⟩;have T9:=T8.trans S9;clear S9 c0 c1 c2 c3 gC;obtain⟨c0,c1,c2,c3⟩:=d.out _ _ T9;go_wp2_with fail;refine(gG w9 o9 E9).mono ?_;rintro e ac ⟨rfl,ag,au,L⟩;have G:=T9.trans L;clear L c0 c1 c2 c3 gG;obtain⟨c0,c1,c2,c3⟩:=d.out _ _ G;go_wp2_with fail;refine(gH ac ag au).mono ?_;rintro e ab ⟨rfl,af,aq,J⟩;have D:=G.trans J;clear J c0 c1 c2 c3 gH;obtain⟨c0,c1,c2,c3⟩:=d.out _ _ D;go_wp2_with fail;refine(gI ab af aq).mono ?_;rintro e aa ⟨rfl,ae,ap,I⟩;have B:=D.trans I;clear I c0 c1 c2 c3 gI;obtain⟨c0,c1,c2,c3⟩:=d.out _ _ B;go_wp2_with fail;refine(gJ aa ae ap).mono ?_;rintro e aC ⟨rfl,ad,an,H⟩;have z:=B.trans H;clear H c0 c1 c2 c3 gJ;obtain⟨c0,c1,c2,c3⟩:=d.out _ _ z;go_wp2
   go_end0
   exact⟨rfl,ad,an,S0.trans z⟩
theorem mU:∀ (f g:Fs),fU f g=true->kdF f=kdF g
 | ⟨GA⟩,⟨GA⟩,_=>rfl
 | ⟨GA⟩,⟨GB ⟨e,n',c,j,b,d⟩⟩,h=>by cases h
 | ⟨GB ⟨k,n,nm,a,ks,r⟩⟩,⟨GA⟩,h=>by cases h
 | ⟨GB ⟨k,n,nm,a,ks,r⟩⟩,⟨GB ⟨e,n',c,j,b,d⟩⟩,h=>by
  simp only[fU,Ha,beq_iff_eq] at h;obtain⟨⟨⟨⟨h1,h2⟩,l⟩,i⟩,h5⟩:=h;simp only[kdF,h1,h2,mU ks b i,mU r d h5]
theorem ym {x y:Ex}(h:eN x y=true):kdE x=kdE y:=by
 unfold eN at h;simp only[Ha,beq_iff_eq] at h;obtain⟨⟨⟨h1,h2⟩,b⟩,a⟩:=h;simp only[kdE,h1,h2,mU _ _ a]
theorem nQ (kd:List Int)(i:Nat):wkP kd i≠4:=by
 unfold wkP;cases kd[i]? with
 | none=>simp
 | some v=>simp only;split<;>omega
theorem oH {k n:Int}{kd:List Int}:(eG k n kd).2=4 ↔ (22<=k/\k<=25):=by
 have l:=nQ kd 0;have h1:=nQ kd 1;by_cases t:22<=k/\k<=25
 ·have u:k=22\/k=23\/k=24\/k=25:=by omega
  rcases u with rfl|rfl|rfl|rfl<;>simp[eG]
 ·refine⟨λh=>?_,λh=>absurd h t⟩;exfalso;unfold eG at h;generalize wkP kd 0=a at h l;generalize wkP kd 1=b at h h1;by_cases s:k=1
  ·rw[if_pos s] at h;cases h
  rw[if_neg s] at h;by_cases r:k=2
  ·rw[if_pos r] at h;cases h
  rw[if_neg r] at h;by_cases q:k=3\/k=5
  ·rw[if_pos q] at h;cases h
  rw[if_neg q] at h;by_cases p:k=6
  ·rw[if_pos p] at h;cases h
  rw[if_neg p] at h;by_cases o:k=7
  ·rw[if_pos o] at h;cases h
  rw[if_neg o] at h;by_cases m:8<=k/\k<=12
  ·rw[if_pos m] at h;cases h
  rw[if_neg m] at h;by_cases i:k=15\/k=16
  ·rw[if_pos i] at h;cases h
  rw[if_neg i] at h;by_cases g:k=17\/k=18
  ·rw[if_pos g] at h;cases h
  rw[if_neg g] at h;by_cases j:k=13\/k=14
  ·rw[if_pos j] at h;cases h
  rw[if_neg j] at h;by_cases f:k=19
  ·rw[if_pos f] at h;exact h1 h
  rw[if_neg f] at h;by_cases e:k=20
  ·rw[if_pos e] at h;split at h
   ·cases h
   split at h
   ·cases h
   split at h<;>cases h
  rw[if_neg e] at h;by_cases d:k=21
  ·rw[if_pos d] at h;split at h
   ·cases h
   split at h<;>cases h
  rw[if_neg d] at h;by_cases c:k=26
  ·rw[if_pos c] at h;exact l h
  rw[if_neg c,if_neg (by omega),if_neg (by omega),if_neg (by omega)] at h;cases h
theorem yr {k n:Int}{kd:List Int}(s:k≠21):∀ v ∈ (eG k n kd).1,v≠4:=by
 have w0:=nQ kd 0;have w1:=nQ kd 1;unfold eG;generalize wkP kd 0=a at w0 ⊢;generalize wkP kd 1=b at w1 ⊢;intro v c t;subst t;by_cases e0:k=1
 ·rw[if_pos e0] at c;simp at c
 rw[if_neg e0] at c;by_cases r:k=2
 ·rw[if_pos r] at c;simp at c
 rw[if_neg r] at c;by_cases q:k=3\/k=5
 ·rw[if_pos q] at c;simp at c
 rw[if_neg q] at c;by_cases p:k=6
 ·rw[if_pos p] at c;simp at c
 rw[if_neg p] at c;by_cases e4:k=7
 ·rw[if_pos e4] at c;simp at c
 rw[if_neg e4] at c;by_cases o:8<=k/\k<=12
 ·rw[if_pos o] at c;simp at c
 rw[if_neg o] at c;by_cases m:k=15\/k=16
 ·rw[if_pos m] at c;simp at c
 rw[if_neg m] at c;by_cases l:k=17\/k=18
 ·rw[if_pos l] at c;simp at c
 rw[if_neg l] at c;by_cases j:k=13\/k=14
 ·rw[if_pos j] at c;simp at c;omega
 rw[if_neg j] at c;by_cases i:k=19
 ·rw[if_pos i] at c;simp at c;omega
 rw[if_neg i] at c;by_cases h:k=20
 ·rw[if_pos h] at c;split at c
  ·simp at c
  split at c
  ·simp at c
  split at c<;>simp at c
 rw[if_neg h,if_neg s] at c;by_cases d:k=26
 ·rw[if_pos d] at c;simp at c;omega
 rw[if_neg d] at c;by_cases g:k=22\/k=23
 ·rw[if_pos g] at c;simp at c
 rw[if_neg g] at c;by_cases f:k=24
 ·rw[if_pos f] at c;simp at c
 rw[if_neg f] at c;by_cases e:k=25
 ·rw[if_pos e] at c;simp at c
 rw[if_neg e] at c;simp at c
theorem pi {k n:Int}{kd:List Int}(h:(eG k n kd).1=kd)(d:(eG k n kd).2≠0)(j:Nat)(v:Int)(a:kd[j]?=GB v):v=4 ↔ (k=21/\j=0):=by
 rw[<-h] at a;by_cases b:k=21
 ·subst b;unfold eG at a;simp at a;by_cases n1:n=1\/n=2
  ·rw[if_pos n1] at a;rcases j with _|_|j<;>simp at a<;>omega
  ·rw[if_neg n1] at a;by_cases c:n=3
   ·rw[if_pos c] at a;rcases j with _|_|j<;>simp at a<;>omega
   ·rw[if_neg c] at a;rcases j with _|_|j<;>simp at a<;>omega
 ·have:=yr b v (Is a)
  constructor
  ·intro e;exact absurd e this
  ·intro e;exact absurd e.1 b
theorem Dk {cells:List Int}:∀ (f:Fs) (pk:Int) (i ar a:Nat) (s s':Rg) (kd:List Int),rgF cells f pk i ar a s=GB (s',kd)->∀ x r,f=Fs.ex x r->∃s2 k rest,rgE cells x (ep pk i ar a).1 (ep pk i ar a).2 s=GB (s2,k)/\rgF cells r pk (i+1) ar a s2=GB (s',rest)/\kd=k::rest:=by
 intro f pk i ar a s s' kd h x r d;subst d;rw[iL] at h;cases c:rgE cells x (ep pk i ar a).1 (ep pk i ar a).2 s with
 | none=>rw[c] at h;cases h
 | some z =>
  obtain⟨s2,k⟩:=z;rw[c] at h;simp only at h;cases b:rgF cells r pk (i+1) ar a s2 with
  | none=>rw[b] at h;cases h
  | some z =>
   obtain⟨e,rest⟩:=z;rw[b] at h;injection h with h
   injection h with h1 h2
   subst h1;exact⟨s2,k,rest,rfl,b,h2.symm⟩
theorem yx {cells:List Int}{n:Int}{ks:Fs}{ar:Nat}{s s':Rg}(h:fO cells n ks ar s=GB s'):(s.2 n.toNat=GA/\s'.2=λi=>if i=n.toNat then GB ks.head else s.2 i)\/(∃x,s.2 n.toNat=GB x/\eN x ks.head=true/\s'=s):=by
 unfold fO at h;split at h
 ·cases h
 ·split at h
  ·cases h
  ·split at h
   ·rename_i h1
    injection h with h;subst h
    exact .inl ⟨h1,rfl⟩
   ·rename_i x h1
    split at h
    ·rename_i h2
     injection h with h;subst h
     exact .inr ⟨x,h1,h2,rfl⟩
    ·cases h
structure Kgo (s s':Rg):Prop where
 up:∀ i x,s.2 i=GB x->s'.2 i=GB x
 pos:(∀ i x,s.2 i=GB x->1<=kdE x)->∀ i x,s'.2 i=GB x->1<=kdE x
theorem Kgo.refl (s:Rg):Kgo s s:=⟨λ_ _ h=>h,λh=>h⟩
theorem Kgo.trans {a b c:Rg}(h:Kgo a b)(k:Kgo b c):Kgo a c:=⟨λi x q=>k.up i x (h.up i x q),λq=>k.pos (h.pos q)⟩
theorem tk {cells:List Int}{n:Int}{ks:Fs}{ar:Nat}{s s':Rg}(h:fO cells n ks ar s=GB s')(b:1<=kdE ks.head):Kgo s s'/\∃x,s'.2 n.toNat=GB x/\kdE x=kdE ks.head:=by
 rcases yx h with ⟨h1,h2⟩|⟨x,h1,h2,rfl⟩
 ·refine⟨⟨λi x q=>?_,λq i x a=>?_⟩,ks.head,by rw[h2];simp,rfl⟩
  ·rw[h2];simp only;rw[if_neg (by rintro rfl;rw[h1] at q;cases q)];exact q
  ·rw[h2] at a;simp only at a;split at a
   ·injection a with a;subst a;exact b
   ·exact q i x a
 ·exact⟨Kgo.refl _,x,h1,ym h2⟩
theorem wO {ks:Fs}(h:ks.len=1):(kdF ks).getD 0 0=kdE ks.head:=by
 obtain⟨v⟩:=ks;cases v with
 | none=>simp[Fs.len] at h
 | some z=>obtain⟨k,n,nm,a,ks,r⟩:=z;simp[kdF,Fs.head,kdE]
theorem wR {nc:Nat}{ks:Fs}(h:ks.len=1)(b:okF nc ks):okE nc ks.head:=by
 obtain⟨v⟩:=ks;cases v with
 | none=>simp[Fs.len] at h
 | some z=>obtain⟨k,n,nm,a,ks,r⟩:=z;exact⟨b.1,b.2.1⟩
theorem DT {n:Int}{nm:List UInt8}{len:Nat}(h:eg 26 n nm len=true):len=1:=by
 unfold eg at h;simp at h;exact h.2
theorem yV (cells:List Int)(nc:Nat):∀ (f:Fs) (pk:Int) (i ar c:Nat) (s s':Rg) (kd:List Int),okF nc f->rgF cells f pk i ar c s=GB (s',kd) ->
  Kgo s s'/\∀ K:Nat->Int,(∀ i x,s'.2 i=GB x->kdE x=K i)->(∀ j v,kd[j]?=GB v->(v=4 ↔ (pk=21/\i+j=0)))->skF K f pk i
 | ⟨GA⟩,pk,i,ar,c,s,s',kd,d,h=>by
  simp only[rgF] at h;injection h with h
  injection h with h1 h2
  subst h1;exact⟨Kgo.refl _,λ_ _ _=>trivial⟩
 | ⟨GB ⟨k,n,nm,a,ks,r⟩⟩,pk,i,ar,c,s,s',kd,d,h=>by
  obtain⟨s2,y,rest,z,A,rfl⟩:=Dk _ pk i ar c s s' kd h ⟨k,n,nm,a,ks⟩ r rfl;obtain⟨F,o,w,t,C,u,h1,h2,b⟩:=gK z;simp only at t C u h1 h2 b;obtain⟨g1,E⟩:=yV cells nc ks k 0 _ _ _ _ _ d.2.1 t;obtain⟨g3,D⟩:=yV cells nc r pk (i+1) ar c _ _ _ d.2.2 A;have m:Kgo s o:=⟨λi x q=>g1.up i x q,λq=>g1.pos q⟩;have g2:Kgo o s2/\(k=26->∃x,s2.2 n.toNat=GB x/\kdE x=(kdF ks).getD 0 0):=by
   by_cases e:k=26
   ·rw[if_pos e] at b;subst e;have g:=DT d.1.1;have B:=(lK (wR g d.2.1)).1;obtain⟨a1,x,a2,a3⟩:=tk b B;exact⟨a1,λ_=>⟨x,a2,by rw[a3,wO g]⟩⟩
   ·rw[if_neg e] at b;injection b with b
    subst b;exact⟨Kgo.refl _,λh=>absurd h e⟩
  refine⟨(m.trans g2.1).trans g3,λK l p=>⟨?_,λe=>?_,?_,?_⟩⟩
  ·have:=p 0 y rfl
   rw[h2,oH] at this;simpa using this
  ·obtain⟨x,a1,a2⟩:=g2.2 e;rw[<-a2];exact l _ _ (g3.up _ _ a1)
  ·exact E K (λi x q=>l i x (g3.up i x (g2.1.up i x q))) (λj v q=>by have:=pi h1 u j v q;simpa using this)
  ·exact D K l (λj v q=>by have:=p (j+1) v q;rw[this];omega)
theorem FB {nc:Nat}{cells:List Int}{e:Ex}(h:fa cells e≠0)(f:okE nc e):∃K:Nat->Int,(∀ i,1<=K i)/\skE K e:=by
 obtain⟨-,-,s,o,u⟩:=nd h;obtain⟨B,l,kd,t,z,w,h1,h2,a⟩:=gK o;obtain⟨g1,y⟩:=yV cells nc e.kids e.k 0 _ _ _ _ _ f.2 t;have g:Kgo (0,λ_=>GA) l:=⟨λi x q=>g1.up i x q,λq=>g1.pos q⟩;have g2:Kgo l s/\(e.k=26->∃x,s.2 e.n.toNat=GB x/\kdE x=(kdF e.kids).getD 0 0):=by
  by_cases b:e.k=26
  ·rw[if_pos b] at a;have d:e.kids.len=1:=by
    have:=f.1.1
    rw[b] at this;exact DT this
   have r:=(lK (wR d f.2)).1;obtain⟨a1,x,a2,a3⟩:=tk a r;exact⟨a1,λ_=>⟨x,a2,by rw[a3,wO d]⟩⟩
  ·rw[if_neg b] at a;injection a with a
   subst a;exact⟨Kgo.refl _,λh=>absurd h b⟩
 have c:=(g.trans g2.1).pos (λi x q=>by cases q)
 let K:Nat->Int:=λi=>match s.2 i with|none=>1|some x=>kdE x
 have m:∀ i x,s.2 i=GB x->kdE x=K i:=λi x q=>by simp only[K];rw[q]
 refine⟨K,λi=>?_,?_,λb=>?_,?_⟩
 ·simp only[K];cases p:s.2 i with
  | none=>simp
  | some x=>exact c i x p
 ·rw[<-oH (n:=e.n) (kd:=kd),<-h2];exact u
 ·obtain⟨x,a1,a2⟩:=g2.2 b;rw[<-a2];exact m _ _ a1
 ·exact y K (λi x q=>m i x (g2.1.up i x q)) (λj v q=>by have:=pi h1 w j v q;simpa using this)
theorem Eu (K:Nat->Int)(nc N:Nat)(HP:iz K nc N)(n:Int)(nm:List UInt8)(a:Int)(x:Ex)(ao:Option G1)(cap ar:Nat)(w:GE)(o:Nat->Nat)(rb:Nat)(p0 p1 p2 p3 p4:GJ)(lv:List Int)(s:Dp)(m:Nat)(hN:(Fs.ex x .nil).size<=N)(ho:okE nc ⟨26,n,nm,a,(Fs.ex x .nil)⟩)(U:skF K (Fs.ex x .nil) 26 0)(aj:lv.length=nc)(ai:nc<=256)(al:ar+(Fs.ex x .nil).size<=1000000)(ah:(Fs.ex x .nil).size<=100000)(S:SnO w o (Fs.ex x .nil) ao)(W:s.ks.length=nc)(hz:s.sz m)(hm:m+(17*(Fs.ex x .nil).size+16)<=100000000)(X:DX w o p4 lv)(h:DW w o rb p0 p1 p2 p3 p4 s) :
  GR GD 69 #[pt0 rb,exN ⟨26,n,nm,a,(Fs.ex x .nil)⟩ ao cap,.int .i64 ar] w (fD w o rb p0 p1 p2 p3 p4 (uO n.toNat (kdE x) (deE lv x) ar s) (.tuple #[])):=by
 have L:=ho.2;simp only at L;have ox:=(eo L).1;have hn:0<=n/\n<(nc:Int):=ho.1.2.2.1 rfl;obtain⟨n0,V⟩:∃n0:Nat,(n0:Int)=n:=⟨n.toNat,by omega⟩;subst V;rw[If];have sx:skE K x:=kX (by omega) U;have aq:=lK ox;simp only[eC,Fs.size] at hN al ah hm;obtain⟨w1,c,g,A,HG,B1,E1,X1,Z,S0⟩:=gr #[.int .i64 26,.int .i64 n0,stv nm,.slice ao (Fs.ex x .nil).len cap] h X S;have f:=gp B1;obtain⟨c0,c1,c2,c3⟩:=f.out _ _ (dQ.refl I17 w1 c);obtain⟨l1,-⟩:=E1.cl;have T1:=dQ.refl I17 w1 c;clear B1 h X S;rw[dS];simp only;obtain⟨b,off,ak,ck,am,NN,Sx,NK⟩:=ic (x:=.nil) Z 0 rfl;subst am;have C:(Fs.ex x .nil).len=1:=rfl;rw[C] at A f c3 ⊢;have H:=λw2 (S2:SnA w2 x.kids ak)=>wt K nc (N+1) x ak ck w2 (by omega) ox sx S2;rw[dS] at H;obtain⟨d,l⟩:=exq (s.cel n0 (kdE x));have dC:=qV s n0 (kdE x);rw[<-l] at dC;have zC:=dC.sz m hz;have kC:=dC.ks.trans W;have hP:=λwx i E=>ez wx i rb p0 p1 p2 p3 p4 d 17 n0 0 E;have dP:=dV d 17 n0 0;have zP:=dP.sz _ zC;have hY:=λwx i S X E=>HP x ak ck ar wx i rb p0 p1 p2 p3 p4 lv (d.puts 17 n0 0) _ (by omega) ox sx aj ai (by omega) (by omega) S (dP.ks.trans kC) zP (by omega) X E;simp only[dS] at hY;have dF:=fg lv x ar (d.puts 17 n0 0);have ac:uO n0 (kdE x) (deE lv x) ar s=((deE lv x ar (d.puts 17 n0 0)).puts 18 n0 0).lands d.at1:=by rw[l];rfl
 rw[ac];clear ac;generalize deE lv x ar (d.puts 17 n0 0)=F at *;have hQ:=λwx i E=>ez wx i rb p0 p1 p2 p3 p4 F 18 n0 0 E;have lF:(F.puts 18 n0 0).lg=false->d.at1<(F.puts 18 n0 0).ws.length:=hS (dF.trans (dV F 18 n0 0));generalize af:d.at1=iC at *;have hR:=λwx i E=>fW wx i rb p0 p1 p2 p3 p4 (F.puts 18 n0 0) iC lF E;have h7:=E1;obtain⟨wl,vc,vn,vk,vw,q0,q1,q2,q3,q4⟩:=E1;obtain⟨gk,Q,rfl,aa,-,-,ad,Y,ae⟩:=q4.pos (by omega);have ab:rb≠gk:=λe=>by have:=q0.2;rw[e,aa] at this;cases this
 have V:n0<s.ks.length:=by omega
 have r7:=(fk q0.1).1.2.2.2.1;have rz:w1.cell? ⟨gk,n0,GA⟩=GB (.int .i64 (s.ks.getD n0 0)):=by
  rw[Y n0 (by omega)];simp[eiV,V,Hb]
 have ap:(n0:Int)<(s.ks.length:Int):=by omega
 obtain⟨y,M⟩:=exq (kdE x);by_cases h0:s.ks.getD n0 0=0
 ·have O:d={ s with ks:=s.ks.set n0 y }:=by rw[l,M];unfold Dp.cel;rw[if_pos h0]
  rw[h0] at rz;have HS:Hid (∀ w2,GK w1.heap.size w1 w2->DW (w2.setCell ⟨gk,n0,GA⟩ (.int .i64 y)) c rb p0 p1 p2 p3 p4 d/\dQ I17 w1 c (w2.setCell ⟨gk,n0,GA⟩ (.int .i64 y)) c):=λw2 B=>by
   have R:=dQ.ofBelow (I:=λ_=>False) c B;have z:dQ (λk=>k=5) w1 c (w2.setCell ⟨gk,n0,GA⟩ (.int .i64 y)) c:=(dQ.ofBelow c B).setCell ⟨gk,n0,GA⟩ _ aa;rw[O];refine⟨⟨wl,_,_,_,_,q0.step z (by decide),q1.step z (by decide),q2.step z (by decide),q3.step z (by decide),?_⟩,z.mono (fx (by decide))⟩;have r:=(q4.step R id).store n0 (.int .i64 y);have e2:eiV (s.ks.set n0 y)=(eiV s.ks).set n0 (.int .i64 y):=by simp[eiV]
   have e3:(s.ks.set n0 y).length=s.ks.length:=by simp
   simp only[e2,e3];exact r
  have FZ:Hid (∀ w2,GK w1.heap.size w1 w2->w2.cell? ⟨rb,7,GA⟩=GB (.slice (GB ⟨gk,0,GA⟩) s.ks.length Q)/\(∃v,w2.cell? ⟨gk,n0,GA⟩=GB v)/\w2.frozen? ⟨gk,n0,GA⟩=false):=λw2 B=>by
   refine⟨(B.cell (p:=⟨rb,7,GA⟩) q0.lt).trans r7,⟨.int .i64 0,?_⟩,?_⟩
   ·rw[B.cell (p:=⟨gk,n0,GA⟩) ad];exact rz
   ·have e:=B.block gk ad
    have:=ae n0
    unfold JP at this ⊢;rw[e];exact this
  rw[<-M] at H;have G:Hid (∀ w' o',dQ I17 w1 c w' o'->Nd4 w' b off x ak ck):=λw' o' T=>NK T dZ;clear l O q0 q1 q2 q3 q4 Y ae dC zC kC dP zP dF af h7 hz W l1 hn ho L U HP Z NN lF wl M h0 C;go_enter Tryz.func69,Tryz.ntmps69;go_upto_region 1 with fail;rw[<-A,<-HG.out];clear A;have BD:∀ q,GK w1.heap.size w1 (w1.drewN q):=λq=>⟨rfl,rfl,rfl,GC _,λ_ _=>rfl⟩
  go_quiet (fail)
  have BD:=BD nq;generalize w1.drewN nq=wd at *;clear c0 c1 c2 c3 r7 rz;obtain⟨c0,c1,c2,c3⟩:=f.out _ _ (dQ.ofBelow (I:=I17) c BD);obtain⟨r7,⟨an,ag⟩,rf⟩:=FZ.out wd BD;obtain⟨R,z,x2,x3⟩:=G.out _ _ (dQ.ofBelow (I:=I17) c BD);have t:=BD.drew;obtain⟨d0,d1,d2,d3⟩:=f.out _ _ (dQ.ofBelow (I:=I17) c t);obtain⟨u7,⟨uz,ur⟩,uf⟩:=FZ.out wd.drew t;obtain⟨y0,y1,y2,y3⟩:=G.out _ _ (dQ.ofBelow (I:=I17) c t);have HK:=H wd.drew (Sx.all.below t);clear H;go_upto_region 2 with fail;go_region_held3 (λwx=>wx.cell? ⟨g,1,GA⟩=GB (.int .i64 n0)/\wx.cell? ⟨g,3,GA⟩=GB (.slice (GB ⟨b,off,GA⟩) 1 cap)/\wx.cell? ⟨rb,7,GA⟩=GB (.slice (GB ⟨gk,0,GA⟩) s.ks.length Q)/\(wx.cell? ⟨b,off,GA⟩=GB (.int .i64 x.k)/\wx.cell? ⟨b,off+1,GA⟩=GB (.int .i64 x.n)/\wx.cell? ⟨b,off+2,GA⟩=GB (stv x.nm)/\wx.cell? ⟨b,off+3,GA⟩=GB (.slice ak x.kids.len ck))) (go_keep) (first|(go_at_call 113;refine HK.mono ?_;rintro e w2 ⟨rfl,B2⟩;have u:=t.trans (B2.mono t.size);obtain⟨e0,e1,e2,e3⟩:=f.out _ _ (dQ.ofBelow (I:=I17) c u);obtain⟨t7,⟨tz,tr⟩,tf⟩:=FZ.out w2 u;obtain⟨z0,z1,z2,z3⟩:=G.out _ _ (dQ.ofBelow (I:=I17) c u);obtain⟨m0,m1,m2,m3⟩:=f.out _ _ (HS.out w2 u).2;obtain⟨v0,v1,v2,v3⟩:=G.out _ _ (HS.out w2 u).2;have mr:=(GS (a:=⟨rb,7,GA⟩) (GP w2 ⟨gk,n0,GA⟩ rb (.int .i64 y) ab)).trans t7))
  all_goals
   obtain⟨E3,P⟩:=HS.out w2 u;clear HS FZ HK G c0 c1 c2 c3 r7 ag rf R z x2 x3 d0 d1 d2 d3 u7 ur uf y0 y1 y2 y3 e0 e1 e2 e3 t7 tr tf z0 z1 z2 z3 m0 m1 m2 m3 v0 v1 v2 v3 mr;generalize w2.setCell ⟨gk,n0,GA⟩ (.int .i64 y)=w3 at *;obtain⟨c0,c1,c2,c3⟩:=f.out _ _ P;obtain⟨J,j⟩:=exq c;rw[<-j] at E3;have P:dQ I17 w1 c w3 J:=by rw[j];exact P
   clear j;go_wp2_with fail;refine(hP w3 J E3).mono ?_;rintro e w4 ⟨rfl,o4,E4,S4⟩;have D:=P.trans S4;clear S4 c0 c1 c2 c3 hP;obtain⟨c0,c1,c2,c3⟩:=f.out _ _ D;obtain⟨R,z,x2,x3⟩:Nd4 w4 b off x ak ck:=NK D dZ;have HY:=hY w4 o4 (Sx.stepO D dZ) (X1.step D dZ) E4;go_wp2_with fail;refine HY.mono ?_;rintro e w5 ⟨rfl,o5,E5,S5⟩;have T5:=D.trans S5;clear S5 c0 c1 c2 c3 R z x2 x3 HY hY;obtain⟨c0,c1,c2,c3⟩:=f.out _ _ T5;go_wp2_with fail;refine(hQ w5 o5 E5).mono ?_;rintro e w6 ⟨rfl,o6,E6,S6⟩;have T6:=T5.trans S6;clear S6 c0 c1 c2 c3 hQ;obtain⟨c0,c1,c2,c3⟩:=f.out _ _ T6;go_wp2_with fail;refine(hR w6 o6 E6).mono ?_;rintro e w7 ⟨rfl,o7,E7,S7⟩;have T7:=T6.trans S7;clear S7 c0 c1 c2 c3 hR;obtain⟨c0,c1,c2,c3⟩:=f.out _ _ T7;go_wp2
   go_end0
   exact⟨rfl,o7,E7,S0.trans T7⟩
 ·have O:d=s:=by rw[l];unfold Dp.cel;rw[if_neg h0]
  subst O;have au:(d.ks.getD n0 0==0)=false:=by simpa using h0
  generalize d.ks.getD n0 0=z0 at *;have TD:∀ q,dQ I17 w1 c (w1.drewN q) c:=λq=>(dQ.refl _ w1 c).drewN q;have ED:∀ q,DW (w1.drewN q) c rb p0 p1 p2 p3 p4 d:=λq=>h7.step ((dQ.refl (λ_=>False) w1 c).drewN q) noF;clear l q0 q1 q2 q3 q4 Y dC zC kC dP zP dF af hz W l1 hn ho L U HP Z NN lF wl M C H h7;go_enter Tryz.func69,Tryz.ntmps69;go_upto_region 1 with fail;rw[<-A,<-HG.out];clear A
  go_quiet (fail)
  have P:=TD nq;have E3:=ED nq;clear TD ED;generalize w1.drewN nq=w3 at *;clear c0 c1 c2 c3 r7 rz;obtain⟨c0,c1,c2,c3⟩:=f.out _ _ P;obtain⟨J,j⟩:=exq c;rw[<-j] at E3;have P:dQ I17 w1 c w3 J:=by rw[j];exact P
  clear j;go_wp2_with fail;refine(hP w3 J E3).mono ?_;rintro e w4 ⟨rfl,o4,E4,S4⟩;have D:=P.trans S4;clear S4 c0 c1 c2 c3 hP;obtain⟨c0,c1,c2,c3⟩:=f.out _ _ D;obtain⟨R,z,x2,x3⟩:Nd4 w4 b off x ak ck:=NK D dZ;have HY:=hY w4 o4 (Sx.stepO D dZ) (X1.step D dZ) E4;go_wp2_with fail;refine HY.mono ?_;rintro e w5 ⟨rfl,o5,E5,S5⟩;have T5:=D.trans S5;clear S5 c0 c1 c2 c3 R z x2 x3 HY hY;obtain⟨c0,c1,c2,c3⟩:=f.out _ _ T5;go_wp2_with fail;refine(hQ w5 o5 E5).mono ?_;rintro e w6 ⟨rfl,o6,E6,S6⟩;have T6:=T5.trans S6;clear S6 c0 c1 c2 c3 hQ;obtain⟨c0,c1,c2,c3⟩:=f.out _ _ T6;go_wp2_with fail;refine(hR w6 o6 E6).mono ?_;rintro e w7 ⟨rfl,o7,E7,S7⟩;have T7:=T6.trans S7;clear S7 c0 c1 c2 c3 hR;obtain⟨c0,c1,c2,c3⟩:=f.out _ _ T7;go_wp2
  go_end0
  exact⟨rfl,o7,E7,S0.trans T7⟩
theorem ER (k n:Int)(nm:List UInt8)(a:Int)(ks:Fs)(ao:Option G1)(cap ar:Nat)(w:GE)(o:Nat->Nat)(rb:Nat)(p0 p1 p2 p3 p4:GJ)(lv:List Int)(s:Dp)(m:Nat)(R:Dp)(y:k=13\/k=14\/k=15\/k=16)(H:∀ wx b,SnO wx b ks ao->DX wx b p4 lv->DW wx b rb p0 p1 p2 p3 p4 s->GR GD 68 #[pt0 rb,exN ⟨k,n,nm,a,ks⟩ ao cap,.int .i64 ar] wx (fD wx b rb p0 p1 p2 p3 p4 R (.tuple #[])))(j:s.lg=false)(S:SnO w o ks ao)(X:DX w o p4 lv)(h:DW w o rb p0 p1 p2 p3 p4 s) :
  GR GD 34 #[pt0 rb,exN ⟨k,n,nm,a,ks⟩ ao cap,.int .i64 ar] w (fD w o rb p0 p1 p2 p3 p4 (R) (.tuple #[])):=by
 obtain⟨w1,i,g,c,B,u,l,p,d,A⟩:=gr #[.int .i64 k,.int .i64 n,stv nm,.slice ao ks.len cap] h X S;have t:=gp u;obtain⟨c0,c1,c2,c3⟩:=t.out _ _ (dQ.refl I17 w1 i);obtain⟨x,-⟩:=l.cl;have z:=dQ.refl I17 w1 i;clear u h X S;rw[dS];simp only;rw[j] at x;have f:=H w1 i d p l;rw[dS] at f;simp only at f;generalize ks.len=le at *;clear H d p l;rcases y with rfl|rfl|rfl|rfl
 all_goals
  go_enter Jg,I7;go_upto_region 1 with fail;rw[<-c,<-B.out];clear c;go_wp2_with fail;refine f.mono ?_;rintro e w2 ⟨rfl,v,C,r⟩;have q:=z.trans r;clear r c0 c1 c2 c3 f;obtain⟨c0,c1,c2,c3⟩:=t.out _ _ q;go_wp2
  go_end0
  exact⟨rfl,v,C,A.trans q⟩
theorem EA (k n:Int)(nm:List UInt8)(a:Int)(ks:Fs)(ao:Option G1)(cap ar:Nat)(w:GE)(o:Nat->Nat)(rb:Nat)(p0 p1 p2 p3 p4:GJ)(lv:List Int)(s:Dp)(m:Nat)(R:Dp)(y:k=26)(H:∀ wx b,SnO wx b ks ao->DX wx b p4 lv->DW wx b rb p0 p1 p2 p3 p4 s->GR GD 69 #[pt0 rb,exN ⟨k,n,nm,a,ks⟩ ao cap,.int .i64 ar] wx (fD wx b rb p0 p1 p2 p3 p4 R (.tuple #[])))(j:s.lg=false)(S:SnO w o ks ao)(X:DX w o p4 lv)(h:DW w o rb p0 p1 p2 p3 p4 s) :
  GR GD 34 #[pt0 rb,exN ⟨k,n,nm,a,ks⟩ ao cap,.int .i64 ar] w (fD w o rb p0 p1 p2 p3 p4 (R) (.tuple #[])):=by
 obtain⟨w1,i,g,c,B,u,l,p,d,A⟩:=gr #[.int .i64 k,.int .i64 n,stv nm,.slice ao ks.len cap] h X S;have t:=gp u;obtain⟨c0,c1,c2,c3⟩:=t.out _ _ (dQ.refl I17 w1 i);obtain⟨x,-⟩:=l.cl;have z:=dQ.refl I17 w1 i;clear u h X S;rw[dS];simp only;rw[j] at x;have f:=H w1 i d p l;rw[dS] at f;simp only at f;generalize ks.len=le at *;clear H d p l;subst y;go_enter Jg,I7;go_upto_region 1 with fail;rw[<-c,<-B.out];clear c;go_wp2_with fail;refine f.mono ?_;rintro e w2 ⟨rfl,v,C,r⟩;have q:=z.trans r;clear r c0 c1 c2 c3 f;obtain⟨c0,c1,c2,c3⟩:=t.out _ _ q;go_wp2
 go_end0
 exact⟨rfl,v,C,A.trans q⟩
theorem Eo (k n:Int)(nm:List UInt8)(a:Int)(ks:Fs)(ao:Option G1)(cap ar:Nat)(w:GE)(o:Nat->Nat)(rb:Nat)(p0 p1 p2 p3 p4:GJ)(lv:List Int)(s:Dp)(m:Nat)(R:Dp)(y:k=21)(H:∀ wx b,SnO wx b ks ao->DX wx b p4 lv->DW wx b rb p0 p1 p2 p3 p4 s->GR GD 70 #[pt0 rb,exN ⟨k,n,nm,a,ks⟩ ao cap,.int .i64 ar] wx (fD wx b rb p0 p1 p2 p3 p4 R (.tuple #[])))(j:s.lg=false)(S:SnO w o ks ao)(X:DX w o p4 lv)(h:DW w o rb p0 p1 p2 p3 p4 s) :
  GR GD 34 #[pt0 rb,exN ⟨k,n,nm,a,ks⟩ ao cap,.int .i64 ar] w (fD w o rb p0 p1 p2 p3 p4 (R) (.tuple #[])):=by
 obtain⟨w1,i,g,c,B,u,l,p,d,A⟩:=gr #[.int .i64 k,.int .i64 n,stv nm,.slice ao ks.len cap] h X S;have t:=gp u;obtain⟨c0,c1,c2,c3⟩:=t.out _ _ (dQ.refl I17 w1 i);obtain⟨x,-⟩:=l.cl;have z:=dQ.refl I17 w1 i;clear u h X S;rw[dS];simp only;rw[j] at x;have f:=H w1 i d p l;rw[dS] at f;simp only at f;generalize ks.len=le at *;clear H d p l;subst y;go_enter Jg,I7;go_upto_region 1 with fail;rw[<-c,<-B.out];clear c;go_wp2_with fail;refine f.mono ?_;rintro e w2 ⟨rfl,v,C,r⟩;have q:=z.trans r;clear r c0 c1 c2 c3 f;obtain⟨c0,c1,c2,c3⟩:=t.out _ _ q;go_wp2
 go_end0
 exact⟨rfl,v,C,A.trans q⟩
theorem EU (k n:Int)(nm:List UInt8)(a:Int)(ks:Fs)(ao:Option G1)(cap ar:Nat)(w:GE)(o:Nat->Nat)(rb:Nat)(p0 p1 p2 p3 p4:GJ)(lv:List Int)(s:Dp)(m:Nat)(R:Dp)(y:k=17\/k=18\/k=19)(H:∀ wx b,SnO wx b ks ao->DX wx b p4 lv->DW wx b rb p0 p1 p2 p3 p4 s->GR GD 71 #[pt0 rb,exN ⟨k,n,nm,a,ks⟩ ao cap,.int .i64 ar] wx (fD wx b rb p0 p1 p2 p3 p4 R (.tuple #[])))(j:s.lg=false)(S:SnO w o ks ao)(X:DX w o p4 lv)(h:DW w o rb p0 p1 p2 p3 p4 s) :
  GR GD 34 #[pt0 rb,exN ⟨k,n,nm,a,ks⟩ ao cap,.int .i64 ar] w (fD w o rb p0 p1 p2 p3 p4 (R) (.tuple #[])):=by
 obtain⟨w1,i,g,c,B,u,l,p,d,A⟩:=gr #[.int .i64 k,.int .i64 n,stv nm,.slice ao ks.len cap] h X S;have t:=gp u;obtain⟨c0,c1,c2,c3⟩:=t.out _ _ (dQ.refl I17 w1 i);obtain⟨x,-⟩:=l.cl;have z:=dQ.refl I17 w1 i;clear u h X S;rw[dS];simp only;rw[j] at x;have f:=H w1 i d p l;rw[dS] at f;simp only at f;generalize ks.len=le at *;clear H d p l;rcases y with rfl|rfl|rfl
 all_goals
  go_enter Jg,I7;go_upto_region 1 with fail;rw[<-c,<-B.out];clear c;go_wp2_with fail;refine f.mono ?_;rintro e w2 ⟨rfl,v,C,r⟩;have q:=z.trans r;clear r c0 c1 c2 c3 f;obtain⟨c0,c1,c2,c3⟩:=t.out _ _ q;go_wp2
  go_end0
  exact⟨rfl,v,C,A.trans q⟩
theorem BP (k n:Int)(nm:List UInt8)(a:Int)(ks:Fs)(ao:Option G1)(cap ar:Nat)(w:GE)(o:Nat->Nat)(rb:Nat)(p0 p1 p2 p3 p4:GJ)(lv:List Int)(s:Dp)(m:Nat)(d:s.lg=true)(S:SnO w o ks ao)(X:DX w o p4 lv)(h:DW w o rb p0 p1 p2 p3 p4 s) :
  GR GD 34 #[pt0 rb,exN ⟨k,n,nm,a,ks⟩ ao cap,.int .i64 ar] w (fD w o rb p0 p1 p2 p3 p4 (s) (.tuple #[])):=by
 obtain⟨w1,c,g,b,t,j,i,p,e,r⟩:=gr #[.int .i64 k,.int .i64 n,stv nm,.slice ao ks.len cap] h X S;have f:=gp j;obtain⟨c0,c1,c2,c3⟩:=f.out _ _ (dQ.refl I17 w1 c);obtain⟨l,-⟩:=i.cl;have q:=dQ.refl I17 w1 c;clear j h X S;rw[dS];simp only;rw[d] at l;clear e p f;go_enter Jg,I7;go_upto_region 1 with fail;rw[<-b,<-t.out];clear b;go_wp2
 go_end0
 exact⟨rfl,c,i,r.trans q⟩
theorem tX (K:Nat->Int)(nc N:Nat)(v:iz K nc N):iz K nc (N+1):=by
 intro e ao cap ar w o rb p0 p1 p2 p3 p4 lv s m V q H g f d b S i p u X h;by_cases A:s.lg=true
 ·rw[zS H.1 A];exact BP e.k e.n e.nm e.a e.kids ao cap ar w o rb p0 p1 p2 p3 p4 lv s m A S X h
 have l:s.lg=false:=by simpa using A
 obtain⟨k,n,nm,a,ks⟩:=e;obtain⟨I,-,c⟩:=H;simp only at V c I d b u S;have j:ks.size<=N:=by omega
 have r:=li q.1.1;have C:=pe q.1.1;simp only at r C;have M:=gQ q.1.1;simp only at M;unfold deE nZ
 dsimp only
 rw[if_neg I,if_neg A];by_cases R:k=1
 ·rw[if_pos R];exact Bg k n nm a ks ao cap ar w o rb p0 p1 p2 p3 p4 lv s m 1 (.inl ⟨R,rfl⟩) l S p (by omega) X h
 rw[if_neg R];by_cases Q:k=2
 ·rw[if_pos Q];exact Bg k n nm a ks ao cap ar w o rb p0 p1 p2 p3 p4 lv s m 2 (.inr ⟨Q,rfl⟩) l S p (by omega) X h
 rw[if_neg Q];by_cases P:k=3
 ·rw[if_pos P];exact Ew k n nm a ks ao cap ar w o rb p0 p1 p2 p3 p4 lv s m P l S p (by omega) X h
 rw[if_neg P];by_cases L:k=5
 ·rw[if_pos L];exact EO k n nm a ks ao cap ar w o rb p0 p1 p2 p3 p4 lv s m L (r.2.2.2.2.2.1 (.inl L)) l S p (by omega) X h
 rw[if_neg L];by_cases O:6<=k/\k<=12
 ·rw[if_pos O];exact EZ K nc N v k n nm a ks ao cap ar w o rb p0 p1 p2 p3 p4 lv s m O j q c g f d b S i p u X h l
 rw[if_neg O];by_cases G:13<=k/\k<=16
 ·rw[if_pos G];exact ER k n nm a ks ao cap ar w o rb p0 p1 p2 p3 p4 lv s m _ (by omega) (λwx t S X E=>Ei K nc N v k n nm a ks ao cap ar wx t rb p0 p1 p2 p3 p4 lv s m G j q c g f d b S i p u X E) l S X h
 rw[if_neg G];by_cases B:k=20
 ·rw[if_pos B,ru];exact DY K nc N v k n nm a ks ao cap ar w o rb p0 p1 p2 p3 p4 lv s m B (by have:=r.2.2.2.2.1 B;omega) j q c g f d b S i p u X h l
 rw[if_neg B];by_cases D:k=26
 ·rw[if_pos D];subst D;obtain⟨x,rfl⟩:=lW (r.2.1 rfl);exact EA 26 n nm a _ ao cap ar w o rb p0 p1 p2 p3 p4 lv s m _ rfl (λwx t S X E=>Eu K nc N v n nm a x ao cap ar wx t rb p0 p1 p2 p3 p4 lv s m j q c g f d b S i p u X E) l S X h
 rw[if_neg D];by_cases F:k=21
 ·rw[if_pos F];subst F;obtain⟨x,y,rfl⟩:=iv (r.2.2.2.1 rfl).1;refine Eo 21 n nm a _ ao cap ar w o rb p0 p1 p2 p3 p4 lv s m _ rfl (λwx t S X E=>?_) l S X h;have W:=(r.2.2.2.1 rfl).2;by_cases n1:n=1
  ·exact CD K nc N v n nm a x y ao cap ar wx t rb p0 p1 p2 p3 p4 lv s m n1 j q c g f d b S i p u X E
  by_cases n2:n=2
  ·exact Dq K nc N v n nm a x y ao cap ar wx t rb p0 p1 p2 p3 p4 lv s m n2 j q c g f d b S i p u X E
  by_cases U:n=3
  ·exact Di K nc N v n nm a x y ao cap ar wx t rb p0 p1 p2 p3 p4 lv s m U j q c g f d b S i p u X E
  by_cases T:n=4
  ·exact BK K nc N v n nm a x y ao cap ar wx t rb p0 p1 p2 p3 p4 lv s m T j q c g f d b S i p u X E
  ·exact DA K nc N v n nm a x y ao cap ar wx t rb p0 p1 p2 p3 p4 lv s m (by omega) j q c g f d b S i p u X E
 rw[if_neg F];have J:k=17\/k=18\/k=19:=by omega
 refine EU k n nm a _ ao cap ar w o rb p0 p1 p2 p3 p4 lv s m _ J (λwx t S X E=>?_) l S X h;rcases J with e|e|e
 ·subst e;obtain⟨x,y,rfl⟩:=iv (C.2.1 (by omega) (by omega));exact Ay K nc N v n nm a x y ao cap ar wx t rb p0 p1 p2 p3 p4 lv s m j q c g f d b S i p u X E
 ·subst e;obtain⟨x,y,rfl⟩:=iv (C.2.1 (by omega) (by omega));exact AQ K nc N v n nm a x y ao cap ar wx t rb p0 p1 p2 p3 p4 lv s m j q c g f d b S i p u X E
 ·subst e;obtain⟨x,y,z,rfl⟩:=kU (r.1 rfl);exact zh K nc N v n nm a x y z ao cap ar wx t rb p0 p1 p2 p3 p4 lv s m j q c g f d b S i p u X E
theorem qH (K:Nat->Int)(nc:Nat):∀ N,iz K nc N
 | 0=>λe ao cap ar w o rb p0 p1 p2 p3 p4 lv s m h=>by omega
 | N+1=>tX K nc N (qH K nc N)
def lr (cells:List Int)(n:Int)(x:Ex)(ar b:Nat)(s:Rg):Option (Rg × Int) :=
 if 0<=n/\n<(cells.length:Int) then (match fJ cells x ar b s with|none=>GA|some (s2,k0)=>anD (fO cells n (Fs.ex x .nil) ar s2) k0) else GA
theorem CN {cells:List Int}{i:Nat}{x:Ex}{ar a:Nat}{s:Rg}{lv:Int}(h:cells[i]?=GB lv)(b:(ar:Int)<lv):lr cells (i:Nat) x ar a s=GA:=by
 unfold lr;split
 ·cases fJ cells x ar a s with
  | none=>rfl
  | some z =>
   obtain⟨s2,k0⟩:=z;simp only[fO,If,h];rw[if_pos (.inl b)];rfl
 ·rfl
theorem BH {cells:List Int}{i:Nat}{x:Ex}{ar a:Nat}{s:Rg}{lv:Int}(h:cells[i]?=GB lv)(c:¬(ar:Int)<lv):lr cells (i:Nat) x ar a s=(match fJ cells x ar a s with|none=>GA|some (s2,k0)=>if lv<hgE x ar then GA else (match s2.2 i with|none=>GB ((s2.1,λj=>if j=i then GB x else s2.2 j),k0)|some y=>if eN y x=true then GB (s2,k0) else GA)):=by
 have e:i<cells.length:=by
  rcases JJ i cells.length with h1|h1
  ·exact h1
  ·rw[He h1] at h;cases h
 unfold lr;rw[if_pos ⟨by omega,by omega⟩];cases fJ cells x ar a s with
 | none=>rfl
 | some z =>
  obtain⟨s2,k0⟩:=z;have d:(Fs.ex x .nil).head=x:=rfl;simp only[fO,If,h,d];by_cases h2:lv<hgE x ar
  ·rw[if_pos (.inr h2),if_pos h2];rfl
  ·rw[if_neg (by rintro (b|b);exact c b;exact h2 b),if_neg h2];cases s2.2 i with
   | none=>rfl
   | some y =>
    simp only;split<;>rfl
theorem KT.put {w:GE}{wb a nc:Nat}{t:Nat->Option Ex}(h:KT w (Nf2 wb a) a nc t)(i:Nat)(x y:Ex)(ak:Option G1)(ck:Nat)(G:eN x y=true)(J:fs y)(S:SlN w (Nf2 wb a) y.kids ak)(E:wb<w.heap.size) :
  KT ((w.alloc (.cells #[.int .i64 y.k,.int .i64 y.n,stv y.nm,.slice ak y.kids.len ck] 34)).setCell ⟨a,i,GA⟩ (.slice (GB ⟨w.heap.size,0,GA⟩) 1 1)) (Nf2 wb a) a nc (λj=>if j=i then GB x else t j):=by
 obtain⟨q,h1,h2,L⟩:=h;have l:=GF h1;generalize f:(Obj.cells #[.int .i64 y.k,.int .i64 y.n,stv y.nm,.slice ak y.kids.len ck] 34 (0,0))=c;have p:(w.alloc c).heap[a]?=GB (.cells q 32 (0,0)):=(GO w c a l).trans h1;have s:∀ k,Nf2 wb a k->k<w.heap.size->((w.alloc c).setCell ⟨a,i,GA⟩ (.slice (GB ⟨w.heap.size,0,GA⟩) 1 1)).heap[k]?=w.heap[k]?:=λk I H=>(GP _ _ k _ I.2).trans (GO w c k H);have d:w.heap.size<=((w.alloc c).setCell ⟨a,i,GA⟩ (.slice (GB ⟨w.heap.size,0,GA⟩) 1 1)).heap.size:=by simp
 have e:((w.alloc c).setCell ⟨a,i,GA⟩ (.slice (GB ⟨w.heap.size,0,GA⟩) 1 1)).heap[w.heap.size]?=GB c:=(GP _ _ _ _ (by show w.heap.size≠a;omega)).trans (GH w c);refine⟨_,(Blk.set (o:=λ_=>0) (i:=0) ⟨p,rfl⟩ i _).1,by simp[h2],λj r=>?_⟩;by_cases b:j=i
 ·subst b;refine .inr ⟨x,y,w.heap.size,1,by simp,G,by simp[h2,r],?_,J⟩;subst f;exact .inr ⟨w.heap.size,0,_,rfl,⟨by omega,by omega⟩,by simp,λm u F=>by rw[Hx,Hf _ _ _ _ _ _ e];simpa using F,FcN.one ck (S.mono s d (λ_ h _=>h))⟩
 ·rcases L j r with ⟨K,h5⟩|⟨z,v,g,cap,D,q2,C,B,A⟩
  ·exact .inl ⟨by simp[b,K],by rw[Array.getElem?_setIfInBounds_ne (Jn b)];exact h5⟩
  ·exact .inr ⟨z,v,g,cap,by simp[b,D],q2,by rw[Array.getElem?_setIfInBounds_ne (Jn b)];exact C,B.mono s d (λ_ h _=>h),A⟩
theorem ET {N:Nat}(IH:ms N)(k0 n:Int)(nm:List UInt8)(a:Int)(x:Ex)(ao:Option G1)(cap wb b:Nat)(bv:GJ)(cells:List Int)(ar O:Nat)(s:Rg)(w:GE)(hN:x.kids.size<N)(P:fs x)(aZ:O<=4)(a9:ar<=O)(av:wb≠b)(h:WD w wb b bv cells.length (GB s))(hn:Inw w (Nf2 wb b) bv cells)(S:SlN w (Nf2 wb b) (Fs.ex x .nil) ao) :
  GR GD 176 #[.pointer (GB ⟨wb,0,GA⟩),.agg #[.int .i64 k0,.int .i64 n,stv nm,.slice ao 1 cap],.int .i64 ar,.int .i64 O] w (eA w wb b bv cells.length (lr cells n x ar O s)):=by
 have B0:GK w.heap.size w (w.alloc (zNv k0 n nm ao 1 cap)):=(GN _ w).alloc (GC _) _;have E0:(w.alloc (zNv k0 n nm ao 1 cap)).heap[w.heap.size]?=GB (zNv k0 n nm ao 1 cap):=GH w _;have W0:=h.below B0;have S0:=S.belowP B0;have N0:=hn.below B0;have a0:=h.lt;have a5:=h.ltk;clear h S hn;go_enter Tryz.func176,Tryz.ntmps176;go_upto_region 1 with fail;generalize w.alloc (zNv k0 n nm ao 1 cap)=w0 at *;have KK:Kp wb b w w0:=Kp.ofBelow B0;obtain⟨bx,aT⟩:=exq w.heap.size;rw[<-aT] at E0 ⊢;have a8:bx≠wb:=by omega
 have af:bx≠b:=by omega
 clear aT a0 a5 B0;obtain⟨p0,p1,p2,p3,pf⟩:=el E0;have V0:=W0.1;have a6:=W0.ltk;obtain⟨T,q1,q2,q3,qf⟩:=el V0;have K:∀ {w2:GE},GK w0.heap.size w0 w2->lr cells n x ar O s=GA->Hid (eA w wb b bv cells.length (lr cells n x ar O s) (.returned (.int .i64 0)) (w2.setCell ⟨wb,3,GA⟩ (.bool false))):=by
  intro w2 b2 hz;rw[hz];exact⟨⟨0,rfl,λs k h=>by cases h⟩,⟨by simpa using GM a6 b2.size,_,_,(ke ((b2.block _ (GF V0)).trans V0) (.bool false)).2⟩,(KK.trans (Kp.ofBelow b2)).set _ _ (.inr (.inl rfl))⟩
 have bdr:∀ m,GK w0.heap.size w0 (w0.drewN m):=λm=>⟨rfl,rfl,rfl,GC _,λ_ _=>rfl⟩;obtain⟨bb,q,aU,l⟩:=N0;have N0:Inw w0 (Nf2 wb b) bv cells:=⟨bb,q,aU,l⟩;subst aU;by_cases aO:n<0
 ·have hd:decide (n<0)=true:=decide_eq_true aO;have HB:=λm=>K (bdr m) (by unfold lr;rw[if_neg (by omega)]);clear K bdr S0 W0 l N0 KK V0 E0;go_wp2_with fail
  go_quiet (fail)
  have HB:=HB nq;go_wp2;exact GG (v:=.int .i64 0) (by simp[results,I4,go_sem]) rfl HB.out
 ·have hd:decide (n<0)=false:=decide_eq_false aO;obtain⟨i,rfl⟩:∃i:Nat,n=(i:Nat):=⟨n.toNat,by omega⟩;by_cases a3:(cells.length:Int)<=(i:Int)
  ·have HB:=λm=>K (bdr m) (by unfold lr;rw[if_neg (by omega)]);clear K bdr S0 W0 l N0 KK V0 E0;go_wp2_with fail
   go_quiet (fail)
   have HB:=HB nq;go_wp2;exact GG (v:=.int .i64 0) (by simp[results,I4,go_sem]) rfl HB.out
  ·have bk:decide ((cells.length:Int)<=(i:Int))=false:=decide_eq_false a3;have aK:i<cells.length:=by omega
   have bi:(i:Int)<(cells.length:Int):=by omega
   obtain⟨lv,aG⟩:∃lv,cells[i]?=GB lv:=⟨_,GI aK⟩;rcases l with l|⟨cb,d,rfl,aR,aL,aS⟩
   ·subst l;simp at aK
   have aV:=aS i lv aG;clear aS;by_cases aH:(ar:Int)<lv
   ·have HB:=λm=>K (bdr m) (CN aG aH);clear K bdr S0 W0 N0 KK V0 E0;go_wp2_with fail
    go_quiet (fail)
    have HB:=HB nq;go_wp2;exact GG (v:=.int .i64 0) (by simp[results,I4,go_sem]) rfl HB.out
   ·have bj:decide ((ar:Int)<lv)=false:=decide_eq_false aH;have HC:Hid (lr cells (i:Nat) x ar O s=_):=BH aG aH;clear K;go_wp2_with fail
    go_quiet (fail)
    have bd:=bdr nq;clear bdr;have W1:=W0.below bd;have S1:=S0.belowP bd;have N1:=N0.below bd;have E1:=(bd.block _ (GF E0)).trans E0;have aY:=KK.trans (Kp.ofBelow bd);have aE:=(bd.cell (p:=⟨cb,d+i,GA⟩) aL).trans aV;have ae:cb<(w0.drewN nq).heap.size:=GM aL bd.size;clear p0 p1 p2 p3 pf T q1 q2 q3 qf W0 S0 N0 E0 KK V0 bd aV aL;generalize w0.drewN nq=w1 at *;obtain⟨p0,p1,p2,p3,pf⟩:=el E1;obtain⟨gb,off,ak,ck,ag,F,e,Z,Y,X,W,SK⟩:=SlN.kidQ (x:=.nil) (r:=.nil) (ks:=x.kids) (k:=x.k) (n:=x.n) (nm:=x.nm) (a:=x.a) S1;subst ag;have a4:(Fs.nil).len=0:=rfl;simp only[a4,IB,Hs] at Z Y X W;have c1:=IH x ak ck wb b _ cells ar O s w1 hN P aZ a9 av W1 N1 SK;rw[dS] at c1;go_wp2_with fail;refine c1.mono ?_;rintro z w2 ⟨⟨U,rfl,aJ⟩,W2,R⟩;have E2:=(R.block _ (GF E1) a8 af).trans E1;have S2:=S1.kp R;have N2:=N1.kp R;have ay:=aY.trans R;have aW:=(R.cell ae aR.1 aR.2 _).trans aE;have aD:=GM ae R.size;have Z:=(R.cell F e.1 e.2 _).trans Z;have Y:=(R.cell F e.1 e.2 _).trans Y;have X:=(R.cell F e.1 e.2 _).trans X;have W:=(R.cell F e.1 e.2 _).trans W;have C:=GM F R.size;have ax:=SK.kp R;clear c1 p0 p1 p2 p3 pf W1 S1 N1 E1 aY aE ae F SK R S2;obtain⟨p0,p1,p2,p3,pf⟩:=el E2;cases hr:fJ cells x ar O s with
    | none =>
     have HR:Hid (eA w wb b (.slice (GB ⟨cb,d,GA⟩) cells.length q) cells.length (lr cells (i:Nat) x ar O s) (.returned (.int .i64 0)) w2):=by
      rw[HC.out,hr];rw[hr] at W2;exact⟨⟨0,rfl,λs k h=>by cases h⟩,W2,ay⟩
     rw[hr] at W2;obtain⟨-,p,kv,V2⟩:=W2;obtain⟨T,q1,q2,q3,qf⟩:=el V2;clear hr aJ HC V2 ax N2 ay E2;go_wp2;exact GG (v:=.int .i64 0) (by simp[results,I4,go_sem]) rfl HR.out
    | some z =>
     obtain⟨s2,k⟩:=z;obtain rfl:=aJ s2 k hr;have a2:x.nv:=by
      unfold fJ at hr;cases hx:rgE cells x ar O s with
      | none=>rw[hx] at hr;cases hr
      | some z=>obtain⟨s',kz⟩:=z;exact AF hx
     rw[hr] at W2;have aC:Hid (lr cells (i:Nat) x ar O s=if lv<hgE x ar then GA else (match s2.2 i with|none=>GB ((s2.1,λj=>if j=i then GB x else s2.2 j),U)|some y=>if eN y x=true then GB (s2,U) else GA)):=by show _=_;rw[HC.out,hr]
     have W2:WD w2 wb b (.slice (GB ⟨cb,d,GA⟩) cells.length q) cells.length (GB s2):=W2;clear hr aJ HC;generalize lr cells (i:Nat) x ar O s=CR at *;have aI:=W2.ltk;obtain⟨V2,a1,aX⟩:=W2;obtain⟨T,q1,q2,q3,qf⟩:=el V2;have aq:=GF E2;have aF:=GF V2;have E:GK w2.heap.size w2 w2.drew:=⟨rfl,rfl,rfl,GC _,λ_ _=>rfl⟩;have c5:=th (x.kids.size+1) x ak ck ar w2.drew (by omega) P.len P.sh a2 (by omega) (by omega) (ax.all.below E);rw[dS] at c5;generalize hgE x ar=hx at *;go_wp2_with fail;go_region_held3 (λwx=>wx.cell? ⟨bx,1,GA⟩=GB (.int .i64 i)/\wx.cell? ⟨bx,3,GA⟩=GB (.slice (GB ⟨gb,off,GA⟩) 1 cap)/\wx.cell? ⟨wb,0,GA⟩=GB (.slice (GB ⟨cb,d,GA⟩) cells.length q)/\wx.cell? ⟨cb,d+i,GA⟩=GB (.int .i64 lv)/\wx.cell? ⟨gb,off,GA⟩=GB (.int .i64 x.k)/\wx.cell? ⟨gb,off+1,GA⟩=GB (.int .i64 x.n)/\wx.cell? ⟨gb,off+2,GA⟩=GB (stv x.nm)/\wx.cell? ⟨gb,off+3,GA⟩=GB (.slice ak x.kids.len ck))
      (first|exact KA|go_keep)
      (first
       | (go_at_call 219;refine c5.mono ?_;rintro z w3 ⟨rfl,B3⟩;have KA:w3.cell? ⟨bx,1,GA⟩=GB (.int .i64 i)/\w3.cell? ⟨bx,3,GA⟩=GB (.slice (GB ⟨gb,off,GA⟩) 1 cap)/\w3.cell? ⟨wb,0,GA⟩=GB (.slice (GB ⟨cb,d,GA⟩) cells.length q)/\w3.cell? ⟨cb,d+i,GA⟩=GB (.int .i64 lv)/\w3.cell? ⟨gb,off,GA⟩=GB (.int .i64 x.k)/\w3.cell? ⟨gb,off+1,GA⟩=GB (.int .i64 x.n)/\w3.cell? ⟨gb,off+2,GA⟩=GB (stv x.nm)/\w3.cell? ⟨gb,off+3,GA⟩=GB (.slice ak x.kids.len ck):=⟨(B3.cell (p:=⟨bx,1,GA⟩) aq).trans p1,(B3.cell (p:=⟨bx,3,GA⟩) aq).trans p3,(B3.cell (p:=⟨wb,0,GA⟩) aF).trans T,(B3.cell (p:=⟨cb,d+i,GA⟩) aD).trans aW,(B3.cell (p:=⟨gb,off,GA⟩) C).trans Z,(B3.cell (p:=⟨gb,off+1,GA⟩) C).trans Y,(B3.cell (p:=⟨gb,off+2,GA⟩) C).trans X,(B3.cell (p:=⟨gb,off+3,GA⟩) C).trans W⟩))
     have B:GK w2.heap.size w2 w3:=E.trans B3;have E3:=(B.block _ aq).trans E2;have V3:=(B.block _ aF).trans V2;have I:=aX.mono (B.block _ aI) (λi _ hl=>B.block i hl) B.size;have J:=ay.trans (Kp.ofBelow B);have Q:=ax.belowP B;have D:=GM aI B.size;have o:=GM C B.size;obtain⟨-,-,-,-,Z,Y,X,W⟩:=KA;clear c5 p0 p1 p2 p3 pf T q1 q2 q3 qf E2 V2 aX ay ax aI C aq aF E B3 B aW aD N2;obtain⟨p0,p1,p2,p3,pf⟩:=el E3;obtain⟨T,q1,q2,q3,qf⟩:=el V3;by_cases aP:lv<hx
     ·have HR:Hid (eA w wb b (.slice (GB ⟨cb,d,GA⟩) cells.length q) cells.length CR (.returned (.int .i64 0)) (w3.setCell ⟨wb,3,GA⟩ (.bool false))):=by
       rw[aC.out,if_pos aP];exact⟨⟨0,rfl,λs k h=>by cases h⟩,⟨by simpa using D,_,_,(ke V3 (.bool false)).2⟩,J.set _ _ (.inr (.inl rfl))⟩
      clear aC I J Q E3 V3;go_wp2;exact GG (v:=.int .i64 0) (by simp[results,I4,go_sem]) rfl HR.out
     ·have aB:Hid (CR=(match s2.2 i with|none=>GB ((s2.1,λj=>if j=i then GB x else s2.2 j),U)|some y=>if eN y x=true then GB (s2,U) else GA)):=by show CR=_;rw[aC.out,if_neg aP]
      clear aC;have ap:=GF E3;have ab:=GF V3;obtain⟨ai,H,ba,ah⟩:=I;have I:KT w3 (Nf2 wb b) b cells.length s2.2:=⟨ai,H,ba,ah⟩;have A:=λ(v:GJ) (hv:ai[i]?=GB v)=>(Hf w3 b i ai _ _ H).trans hv;have aj:∀ {w4:GE} (y:Ex),GK w3.heap.size w3 w4->eN y x=true->CR=GB ((s2.1,λj=>if j=i then GB y else s2.2 j),U)->Hid (eA w wb b (.slice (GB ⟨cb,d,GA⟩) cells.length q) cells.length CR (.returned (.int .i64 U)) ((w4.alloc (zNd x ak ck)).setCell ⟨b,i,GA⟩ (.slice (GB ⟨w4.heap.size,0,GA⟩) 1 1))):=by
       intro w4 y b4 au a7;rw[a7];have bh:=GM D b4.size;have aN:=GM ab b4.size;have V:=(b4.block _ ab).trans V3;have bc:=I.mono (b4.block _ D) (λi _ hl=>b4.block i hl) b4.size;refine⟨⟨U,rfl,λs k h=>by injection h with h;injection h⟩,⟨?_,a1,bc.put i y x ak ck au P (Q.belowP b4) aN⟩,((J.trans (Kp.ofBelow b4)).alloc _).set _ _ (.inr (.inr rfl))⟩;exact(GP _ _ _ _ (by show wb≠b;exact av)).trans ((GO w4 _ wb aN).trans V)
      rcases ah i aK with ⟨ht,aw⟩|⟨x',u,g,cg,ht,au,aw,SY,aQ⟩
      ·have e1:=A _ aw;have HP:=λm=>aj (w4:=w3.drewN m) x ⟨rfl,rfl,rfl,GC _,λ_ _=>rfl⟩ (uW x) (by rw[aB.out,ht]);clear aj aB I J Q A ah ht;go_wp2_with fail
       go_quiet (fail)
       have HP:=HP nq;have c:GK w3.heap.size w3 (w3.drewN nq):=⟨rfl,rfl,rfl,GC _,λ_ _=>rfl⟩;have E4:=(c.block _ ap).trans E3;have V:=(c.block _ ab).trans V3;have Y0:=(c.cell (p:=⟨gb,off,GA⟩) o).trans Z;have Y1:=(c.cell (p:=⟨gb,off+1,GA⟩) o).trans Y;have Y2:=(c.cell (p:=⟨gb,off+2,GA⟩) o).trans X;have Y3:=(c.cell (p:=⟨gb,off+3,GA⟩) o).trans W;have KF:=Ik (w3.drewN nq) b i ai _ ((c.block _ D).trans H);have KC:=(c.cell (p:=⟨b,i,GA⟩) D).trans e1;have M:=GM D c.size;have t:=GM o c.size;clear p0 p1 p2 p3 pf T q1 q2 q3 qf Z Y X W c E3 V3 aw e1 H;generalize w3.drewN nq=w4 at *;obtain⟨p0,p1,p2,p3,pf⟩:=el E4;obtain⟨T,q1,q2,q3,qf⟩:=el V;have G:=GF E4;have aa:=GF V;clear E4 V;have f:∀ (g j:Nat),g≠b->g<w4.heap.size->(((w4.setCell ⟨b,i,GA⟩ (.slice (GB ⟨w4.heap.size,0,GA⟩) 1 1)).alloc (zNd x ak ck)).drew).cell? ⟨g,j,GA⟩=w4.cell? ⟨g,j,GA⟩:=λg j h1 h2=>GS (a:=⟨g,j,GA⟩) ((GO (w4.setCell ⟨b,i,GA⟩ (.slice (GB ⟨w4.heap.size,0,GA⟩) 1 1)) (zNd x ak ck) g (by simpa using h2)).trans (GP w4 ⟨b,i,GA⟩ g _ h1));have al:(((w4.setCell ⟨b,i,GA⟩ (.slice (GB ⟨w4.heap.size,0,GA⟩) 1 1)).alloc (zNd x ak ck)).drew).cell? ⟨bx,1,GA⟩=GB (.int .i64 i)/\(((w4.setCell ⟨b,i,GA⟩ (.slice (GB ⟨w4.heap.size,0,GA⟩) 1 1)).alloc (zNd x ak ck)).drew).cell? ⟨bx,3,GA⟩=GB (.slice (GB ⟨gb,off,GA⟩) 1 cap)/\(((w4.setCell ⟨b,i,GA⟩ (.slice (GB ⟨w4.heap.size,0,GA⟩) 1 1)).alloc (zNd x ak ck)).drew).cell? ⟨wb,2,GA⟩=GB (.slice (GB ⟨b,0,GA⟩) cells.length cells.length)/\(((w4.setCell ⟨b,i,GA⟩ (.slice (GB ⟨w4.heap.size,0,GA⟩) 1 1)).alloc (zNd x ak ck)).drew).cell? ⟨gb,off,GA⟩=GB (.int .i64 x.k)/\(((w4.setCell ⟨b,i,GA⟩ (.slice (GB ⟨w4.heap.size,0,GA⟩) 1 1)).alloc (zNd x ak ck)).drew).cell? ⟨gb,off+1,GA⟩=GB (.int .i64 x.n)/\(((w4.setCell ⟨b,i,GA⟩ (.slice (GB ⟨w4.heap.size,0,GA⟩) 1 1)).alloc (zNd x ak ck)).drew).cell? ⟨gb,off+2,GA⟩=GB (stv x.nm)/\(((w4.setCell ⟨b,i,GA⟩ (.slice (GB ⟨w4.heap.size,0,GA⟩) 1 1)).alloc (zNd x ak ck)).drew).cell? ⟨gb,off+3,GA⟩=GB (.slice ak x.kids.len ck):=⟨(f _ _ af G).trans p1,(f _ _ af G).trans p3,(f _ _ av aa).trans q2,(f _ _ e.2 t).trans Y0,(f _ _ e.2 t).trans Y1,(f _ _ e.2 t).trans Y2,(f _ _ e.2 t).trans Y3⟩;have aM:Hid (eA w wb b (.slice (GB ⟨cb,d,GA⟩) cells.length q) cells.length CR (.returned (.int .i64 U)) (((w4.setCell ⟨b,i,GA⟩ (.slice (GB ⟨w4.heap.size,0,GA⟩) 1 1)).alloc (zNd x ak ck)).drew)):=by
        have h5:=HP.out;rw[World.setCell_alloc_past _ _ _ _ M] at h5;exact⟨h5.1,h5.2.1.below ⟨rfl,rfl,rfl,GC _,λ_ _=>rfl⟩,h5.2.2.trans (Kp.ofBelow ⟨rfl,rfl,rfl,GC _,λ_ _=>rfl⟩)⟩
       clear HP f;go_wp2_with fail;go_region_held3 (λwx=>wx.cell? ⟨bx,1,GA⟩=GB (.int .i64 i)/\wx.cell? ⟨bx,3,GA⟩=GB (.slice (GB ⟨gb,off,GA⟩) 1 cap)/\wx.cell? ⟨wb,2,GA⟩=GB (.slice (GB ⟨b,0,GA⟩) cells.length cells.length)/\wx.cell? ⟨gb,off,GA⟩=GB (.int .i64 x.k)/\wx.cell? ⟨gb,off+1,GA⟩=GB (.int .i64 x.n)/\wx.cell? ⟨gb,off+2,GA⟩=GB (stv x.nm)/\wx.cell? ⟨gb,off+3,GA⟩=GB (.slice ak x.kids.len ck)) (first|exact al|go_keep) (fail);clear al;go_wp2;exact GG (v:=.int .i64 U) (by simp[results,I4,go_sem]) rfl aM.out
      ·have e1:=A _ aw;obtain⟨az,cz,an,bg,z0,z1,z2,z3,SZ⟩:∃az,∃cz,g<w3.heap.size/\Nf2 wb b g/\w3.cell? ⟨g,0,GA⟩=GB (.int .i64 u.k)/\w3.cell? ⟨g,1,GA⟩=GB (.int .i64 u.n)/\w3.cell? ⟨g,2,GA⟩=GB (stv u.nm)/\w3.cell? ⟨g,3,GA⟩=GB (.slice az u.kids.len cz)/\SlN w3 (Nf2 wb b) u.kids az:=by
        obtain⟨bl,bf,az,cz,ag,F,e,z0,z1,z2,z3,SZ⟩:=SlN.kidQ (x:=.nil) (r:=.nil) (ks:=u.kids) (k:=u.k) (n:=u.n) (nm:=u.nm) (a:=u.a) SY;injection ag with ag
        injection ag with h1 h2
        subst h1;subst h2;exact⟨az,cz,F,e,z0,z1,z2,z3,SZ⟩
       have E:GK w3.heap.size w3 w3.drew:=⟨rfl,rfl,rfl,GC _,λ_ _=>rfl⟩;have c6:=nu (u.kids.size+1) u x az ak cz ck w3.drew (by omega) aQ.len aQ.sh P.len P.sh (SZ.all.below E) (Q.all.below E);rw[dS,dS,Ab x au] at c6;have aA:Hid (CR=if eN x' x=true then GB (s2,U) else GA):=by show CR=_;rw[aB.out,ht]
       have ad:Hid ((λj=>if j=i then GB x' else s2.2 j)=s2.2):=by
        show _=_;funext j;by_cases hj:j=i
        ·rw[if_pos hj,hj,ht]
        ·rw[if_neg hj]
       obtain⟨sm,ac⟩:=exq (eN x' x);rw[<-ac] at c6;have am:Hid (eN x' x=sm):=ac.symm;clear ac aB SY SZ au ht;have be:w3.drew.cell? ⟨bx,1,GA⟩=GB (.int .i64 i)/\w3.drew.cell? ⟨bx,3,GA⟩=GB (.slice (GB ⟨gb,off,GA⟩) 1 cap)/\w3.drew.cell? ⟨wb,2,GA⟩=GB (.slice (GB ⟨b,0,GA⟩) cells.length cells.length)/\w3.drew.cell? ⟨b,i,GA⟩=GB (.slice (GB ⟨g,0,GA⟩) 1 cg)/\w3.drew.cell? ⟨g,0,GA⟩=GB (.int .i64 u.k)/\w3.drew.cell? ⟨g,1,GA⟩=GB (.int .i64 u.n)/\w3.drew.cell? ⟨g,2,GA⟩=GB (stv u.nm)/\w3.drew.cell? ⟨g,3,GA⟩=GB (.slice az u.kids.len cz)/\w3.drew.cell? ⟨gb,off,GA⟩=GB (.int .i64 x.k)/\w3.drew.cell? ⟨gb,off+1,GA⟩=GB (.int .i64 x.n)/\w3.drew.cell? ⟨gb,off+2,GA⟩=GB (stv x.nm)/\w3.drew.cell? ⟨gb,off+3,GA⟩=GB (.slice ak x.kids.len ck):=⟨p1,p3,q2,e1,z0,z1,z2,z3,Z,Y,X,W⟩;go_wp2_with fail;go_region_held3 (λwx=>wx.cell? ⟨bx,1,GA⟩=GB (.int .i64 i)/\wx.cell? ⟨bx,3,GA⟩=GB (.slice (GB ⟨gb,off,GA⟩) 1 cap)/\wx.cell? ⟨wb,2,GA⟩=GB (.slice (GB ⟨b,0,GA⟩) cells.length cells.length)/\wx.cell? ⟨b,i,GA⟩=GB (.slice (GB ⟨g,0,GA⟩) 1 cg)/\wx.cell? ⟨g,0,GA⟩=GB (.int .i64 u.k)/\wx.cell? ⟨g,1,GA⟩=GB (.int .i64 u.n)/\wx.cell? ⟨g,2,GA⟩=GB (stv u.nm)/\wx.cell? ⟨g,3,GA⟩=GB (.slice az u.kids.len cz)/\wx.cell? ⟨gb,off,GA⟩=GB (.int .i64 x.k)/\wx.cell? ⟨gb,off+1,GA⟩=GB (.int .i64 x.n)/\wx.cell? ⟨gb,off+2,GA⟩=GB (stv x.nm)/\wx.cell? ⟨gb,off+3,GA⟩=GB (.slice ak x.kids.len ck))
        (first|exact KA|exact be|go_keep)
        (first
         | (go_at_call 220;refine c6.mono ?_;rintro z w4 ⟨rfl,L⟩;have KA:w4.cell? ⟨bx,1,GA⟩=GB (.int .i64 i)/\w4.cell? ⟨bx,3,GA⟩=GB (.slice (GB ⟨gb,off,GA⟩) 1 cap)/\w4.cell? ⟨wb,2,GA⟩=GB (.slice (GB ⟨b,0,GA⟩) cells.length cells.length)/\w4.cell? ⟨b,i,GA⟩=GB (.slice (GB ⟨g,0,GA⟩) 1 cg)/\w4.cell? ⟨g,0,GA⟩=GB (.int .i64 u.k)/\w4.cell? ⟨g,1,GA⟩=GB (.int .i64 u.n)/\w4.cell? ⟨g,2,GA⟩=GB (stv u.nm)/\w4.cell? ⟨g,3,GA⟩=GB (.slice az u.kids.len cz)/\w4.cell? ⟨gb,off,GA⟩=GB (.int .i64 x.k)/\w4.cell? ⟨gb,off+1,GA⟩=GB (.int .i64 x.n)/\w4.cell? ⟨gb,off+2,GA⟩=GB (stv x.nm)/\w4.cell? ⟨gb,off+3,GA⟩=GB (.slice ak x.kids.len ck):=⟨(L.cell (p:=⟨bx,1,GA⟩) ap).trans p1,(L.cell (p:=⟨bx,3,GA⟩) ap).trans p3,(L.cell (p:=⟨wb,2,GA⟩) ab).trans q2,(L.cell (p:=⟨b,i,GA⟩) D).trans e1,(L.cell (p:=⟨g,0,GA⟩) an).trans z0,(L.cell (p:=⟨g,1,GA⟩) an).trans z1,(L.cell (p:=⟨g,2,GA⟩) an).trans z2,(L.cell (p:=⟨g,3,GA⟩) an).trans z3,(L.cell (p:=⟨gb,off,GA⟩) o).trans Z,(L.cell (p:=⟨gb,off+1,GA⟩) o).trans Y,(L.cell (p:=⟨gb,off+2,GA⟩) o).trans X,(L.cell (p:=⟨gb,off+3,GA⟩) o).trans W⟩))
       have c:GK w3.heap.size w3 w4:=E.trans L;have E4:=(c.block _ ap).trans E3;have V:=(c.block _ ab).trans V3;have KF:=Ik w4 b i ai _ ((c.block _ D).trans H);obtain⟨-,-,-,KC,-,-,-,-,Y0,Y1,Y2,Y3⟩:=KA;have M:=GM D c.size;have t:=GM o c.size;have G:=GF E4;have aa:=GF V;cases sm with
       | false =>
        have HR:Hid (eA w wb b (.slice (GB ⟨cb,d,GA⟩) cells.length q) cells.length CR (.returned (.int .i64 0)) (w4.setCell ⟨wb,3,GA⟩ (.bool false))):=by
         rw[aA.out,am.out,if_neg (by decide)];exact⟨⟨0,rfl,λs k h=>by cases h⟩,⟨by simpa using M,_,_,(ke V (.bool false)).2⟩,(J.trans (Kp.ofBelow c)).set _ _ (.inr (.inl rfl))⟩
        clear c6 aj aA am ad I J Q p0 p1 p2 p3 pf T q1 q2 q3 qf Z Y X W z0 z1 z2 z3 e1 H E3 V3 L c E A ah;obtain⟨T,q1,q2,q3,qf⟩:=el V;clear E4 V;go_wp2;exact GG (v:=.int .i64 0) (by simp[results,I4,go_sem]) rfl HR.out
       | true =>
        have HP:=aj x' c am.out (by rw[aA.out,am.out,if_pos rfl,ad.out]);clear c6 aj aA am ad I J Q p0 p1 p2 p3 pf T q1 q2 q3 qf Z Y X W z0 z1 z2 z3 e1 H E3 V3 L c E A ah;obtain⟨p0,p1,p2,p3,pf⟩:=el E4;obtain⟨T,q1,q2,q3,qf⟩:=el V;clear E4 V;have f:∀ (g j:Nat),g≠b->g<w4.heap.size->(((w4.setCell ⟨b,i,GA⟩ (.slice (GB ⟨w4.heap.size,0,GA⟩) 1 1)).alloc (zNd x ak ck)).drew).cell? ⟨g,j,GA⟩=w4.cell? ⟨g,j,GA⟩:=λg j h1 h2=>GS (a:=⟨g,j,GA⟩) ((GO (w4.setCell ⟨b,i,GA⟩ (.slice (GB ⟨w4.heap.size,0,GA⟩) 1 1)) (zNd x ak ck) g (by simpa using h2)).trans (GP w4 ⟨b,i,GA⟩ g _ h1));have al:(((w4.setCell ⟨b,i,GA⟩ (.slice (GB ⟨w4.heap.size,0,GA⟩) 1 1)).alloc (zNd x ak ck)).drew).cell? ⟨bx,1,GA⟩=GB (.int .i64 i)/\(((w4.setCell ⟨b,i,GA⟩ (.slice (GB ⟨w4.heap.size,0,GA⟩) 1 1)).alloc (zNd x ak ck)).drew).cell? ⟨bx,3,GA⟩=GB (.slice (GB ⟨gb,off,GA⟩) 1 cap)/\(((w4.setCell ⟨b,i,GA⟩ (.slice (GB ⟨w4.heap.size,0,GA⟩) 1 1)).alloc (zNd x ak ck)).drew).cell? ⟨wb,2,GA⟩=GB (.slice (GB ⟨b,0,GA⟩) cells.length cells.length)/\(((w4.setCell ⟨b,i,GA⟩ (.slice (GB ⟨w4.heap.size,0,GA⟩) 1 1)).alloc (zNd x ak ck)).drew).cell? ⟨gb,off,GA⟩=GB (.int .i64 x.k)/\(((w4.setCell ⟨b,i,GA⟩ (.slice (GB ⟨w4.heap.size,0,GA⟩) 1 1)).alloc (zNd x ak ck)).drew).cell? ⟨gb,off+1,GA⟩=GB (.int .i64 x.n)/\(((w4.setCell ⟨b,i,GA⟩ (.slice (GB ⟨w4.heap.size,0,GA⟩) 1 1)).alloc (zNd x ak ck)).drew).cell? ⟨gb,off+2,GA⟩=GB (stv x.nm)/\(((w4.setCell ⟨b,i,GA⟩ (.slice (GB ⟨w4.heap.size,0,GA⟩) 1 1)).alloc (zNd x ak ck)).drew).cell? ⟨gb,off+3,GA⟩=GB (.slice ak x.kids.len ck):=⟨(f _ _ af G).trans p1,(f _ _ af G).trans p3,(f _ _ av aa).trans q2,(f _ _ e.2 t).trans Y0,(f _ _ e.2 t).trans Y1,(f _ _ e.2 t).trans Y2,(f _ _ e.2 t).trans Y3⟩;have aM:Hid (eA w wb b (.slice (GB ⟨cb,d,GA⟩) cells.length q) cells.length CR (.returned (.int .i64 U)) (((w4.setCell ⟨b,i,GA⟩ (.slice (GB ⟨w4.heap.size,0,GA⟩) 1 1)).alloc (zNd x ak ck)).drew)):=by
         have h5:=HP.out;rw[World.setCell_alloc_past _ _ _ _ M] at h5;exact⟨h5.1,h5.2.1.below ⟨rfl,rfl,rfl,GC _,λ_ _=>rfl⟩,h5.2.2.trans (Kp.ofBelow ⟨rfl,rfl,rfl,GC _,λ_ _=>rfl⟩)⟩
        clear HP f;go_wp2_with fail;go_region_held3 (λwx=>wx.cell? ⟨bx,1,GA⟩=GB (.int .i64 i)/\wx.cell? ⟨bx,3,GA⟩=GB (.slice (GB ⟨gb,off,GA⟩) 1 cap)/\wx.cell? ⟨wb,2,GA⟩=GB (.slice (GB ⟨b,0,GA⟩) cells.length cells.length)/\wx.cell? ⟨gb,off,GA⟩=GB (.int .i64 x.k)/\wx.cell? ⟨gb,off+1,GA⟩=GB (.int .i64 x.n)/\wx.cell? ⟨gb,off+2,GA⟩=GB (stv x.nm)/\wx.cell? ⟨gb,off+3,GA⟩=GB (.slice ak x.kids.len ck)) (first|exact al|go_keep) (fail);clear al;go_wp2;exact GG (v:=.int .i64 U) (by simp[results,I4,go_sem]) rfl aM.out
end Go.Proofs.YtkhgahljbpmfaaaGreatDoor
