import Derived.Test.YtbjdkekhnajafaaGreatDoorEqZ
set_option maxRecDepth 100000
set_option maxHeartbeats 8000000
namespace Go.Proofs.YtbjdkekhnajafaaGreatDoor
open Go.ChangeShapes Go.WideShapes Go.ChangeAt Go.RowKit
set_option linter.unusedVariables false
set_option linter.unusedSimpArgs false
theorem iW {lv:List Int}{x:Ex}{ar:Nat}{s:Dp}(h:22<=x.k/\x.k<=25):deE lv x ar s=vI x.k x.nm (deF lv x.kids) ar s:=by
 unfold deE lm;rw[if_pos h]
theorem DW.ll {w:World}{o:Nat->Nat}{rb:Nat}{p0 p1 p2 p3 p4:Value}{s:Dp}(h:DW w o rb p0 p1 p2 p3 p4 s):∃ao cap,w.cell? ⟨rb,8,none⟩=some (.slice ao s.ws.length cap):=by
 obtain⟨wl,vc,vn,vk,vw,q0,q1,-⟩:=h;obtain⟨⟨c4,c5,c6,c7,c8,c9,c10,c11⟩,cf⟩:=bV q0.1;obtain⟨ao,cap,rfl⟩:=q1.form;exact⟨ao,cap,c8⟩
theorem Aw (K:Nat->Int)(nc N:Nat)(HP:eu K nc N)(n:Int)(nm:List UInt8)(a:Int)(x y:Ex)(ao:Option Addr)(cap ar:Nat)(w:World)(o:Nat->Nat)(rb:Nat)(p0 p1 p2 p3 p4:Value)(lv:List Int)(s:Dp)(m:Nat)(hn:n=1)(hN:(Fs.ex x (Fs.ex y .nil)).size<=N)(ho:okE nc ⟨21,n,nm,a,(Fs.ex x (Fs.ex y .nil))⟩)(hsk:skF K (Fs.ex x (Fs.ex y .nil)) 21 0)(hlv:lv.length=nc)(hnc:nc<=256)(har:ar+(Fs.ex x (Fs.ex y .nil)).size<=1000000)(hsz:(Fs.ex x (Fs.ex y .nil)).size<=100000)(S:SnO w o (Fs.ex x (Fs.ex y .nil)) ao)(hks:s.ks.length=nc)(hz:s.sz m)(hm:m+(17*(Fs.ex x (Fs.ex y .nil)).size+16)<=100000000)(X:DX w o p4 lv)(h:DW w o rb p0 p1 p2 p3 p4 s) :
  Calls Tryz.prog 82 #[pt0 rb,exN ⟨21,n,nm,a,(Fs.ex x (Fs.ex y .nil))⟩ ao cap,.int .i64 (ar:Nat)] w (cH w o rb p0 p1 p2 p3 p4 (iF lv n (deE lv x) (deE lv y) ar s) (.tuple #[])):=by
 have hok:=ho.2;simp only at hok;have ox:=(aK hok).1;have oy:=(aK (aK hok).2).1;have hx4:22<=x.k/\x.k<=25:=hsk.1.2 ⟨rfl,rfl⟩;have sx:=hsk.2.2.1;have sy:skE K y:=⟨fun hs=>absurd (hsk.2.2.2.1.1 hs).2 (by omega),hsk.2.2.2.2.1,hsk.2.2.2.2.2.1⟩
 simp only[aV,Fs.size] at hN har hsz hm;obtain⟨w1,o1,g,hw1,HG,B1,E1,X1,SN1,S0⟩:=dl #[.int .i64 21,.int .i64 n,stv nm,.slice ao (Fs.ex x (Fs.ex y .nil)).len cap] h X S;have KK:=dm B1;obtain⟨c0,c1,c2,c3⟩:=KK.out _ _ (aa.refl I17 w1 o1);obtain⟨l1,-⟩:=E1.cl;have T1:=aa.refl I17 w1 o1;clear B1 h X S;rw[ah];simp only;obtain⟨b,off,ak,ck,hao,NN,Sx,NK⟩:=dQ (x:=.nil) SN1 0 rfl;obtain⟨b1,off1,ak1,ck1,hao1,NN1,Sy,NK1⟩:=dQ (x:=one x) SN1 1 rfl;subst hao;injection hao1 with hao1
 injection hao1 with e1 e2
 subst e1 e2;have hlen:(Fs.ex x (Fs.ex y .nil)).len=2:=rfl;rw[hlen] at hw1 KK c3 ⊢;obtain⟨x0,x1,x2,x3⟩:Nd4 w1 b off x ak ck:=NN;have H1:=mg K nc N HP x.k x.n x.nm x.a x.kids ak ck ar w1 o1 rb p0 p1 p2 p3 p4 lv s m hx4 (by omega) ox sx hlv hnc (by omega) (by omega) Sx hks hz (by omega) X1 E1;rw[<-iW hx4] at H1;rw[ah] at H1;have dA:=bQ lv x ar s;unfold iF
 dsimp only
 generalize deE lv x ar s=A at *;have zA:=dA.sz m hz;obtain⟨Bq,hBq⟩:∃Bq,Bq=eF n A:=⟨_,rfl⟩
 rw[<-hBq];have hB:Bq=A:=by rw[hBq];rcases hn with rfl<;>rfl
 have dB:Dle 4 A Bq:=by rw[hBq];exact ig n A
 have zB:=dB.sz _ zA;have kB:Bq.ks.length=nc:=(dB.ks.trans dA.ks).trans hks;subst hB;clear hBq dA dB hz hks;by_cases hlg:Bq.lg=true
 ·rw[if_pos hlg];have HP:=0;clear HP;clear Sx Sy NK NK1 NN1 hok ox oy sx sy hx4 hsk ho zA zB kB X1 SN1 l1 hlen E1;subst hn;go_enter Tryz.func82,Tryz.ntmps82;go_upto_region 1 with fail;rw[<-hw1,<-HG.out];clear hw1;go_wp2_with fail;refine H1.mono ?_;rintro e w2 ⟨rfl,o2,E2,S2⟩;have T2:=T1.trans S2;clear S2 c0 c1 c2 c3 x0 x1 x2 x3 H1;obtain⟨c0,c1,c2,c3⟩:=KK.out _ _ T2;obtain⟨l1,-⟩:=E2.cl;rw[hlg] at l1;go_wp2
  go_end0
  exact⟨rfl,o2,E2,S0.trans T2⟩
 ·rw[if_neg hlg];have hlf:Bq.lg=false:=by simpa using hlg
  have hP:=fun wx ox' E=>aS wx ox' rb p0 p1 p2 p3 p4 Bq 24 0 0 E;have dP:=aq Bq 24 0 0;have dC:=fa (ar+1) lv 0 (Bq.puts 24 0 0);have zC:=dC.sz _ (dP.sz _ zB);have kC:=(dC.ks.trans dP.ks).trans kB;have hC:=fun wx ox' X E=>gu ar wx ox' rb p0 p1 p2 p3 p4 lv (Bq.puts 24 0 0) (by omega) (by omega) X E;generalize fB (ar+1) lv 0 (Bq.puts 24 0 0)=C at *;have hY:=fun wx ox' S X E=>HP y ak1 ck1 (ar+1) wx ox' rb p0 p1 p2 p3 p4 lv C _ (by omega) oy sy hlv hnc (by omega) (by omega) S kC zC (by omega) X E;simp only[ah] at hY;rw[show ((ar+1:Nat):Int)=(ar:Int)+1 from rfl] at hY;have dE:=bQ lv y (ar+1) C;generalize deE lv y (ar+1) C=F at *;have zF:=dE.sz _ zC;have lF:F.lg=false->Bq.at1<F.ws.length:=dO (dC.trans dE);generalize hat:Bq.at1=iB at *;generalize hgl:Bq.ws.length=gB at *;have hLL:∀ wx ox',DW wx ox' rb p0 p1 p2 p3 p4 Bq->∃ao cap,wx.cell? ⟨rb,8,none⟩=some (.slice ao gB cap):=fun wx ox' E=>by rw[<-hgl];exact E.ll
  have gA:=fun wx ox' E=>At gB iB wx ox' rb p0 p1 p2 p3 p4 F _ zF (by omega) lF E;clear lF zF dE zC dC dP;subst hn;rw[if_pos (by omega)];clear hok ox oy sx sy hx4 hsk ho zA zB kB kC HP hat hgl l1 hlen E1 SN1;go_enter Tryz.func82,Tryz.ntmps82;go_upto_region 1 with fail;rw[<-hw1,<-HG.out];clear hw1;go_wp2_with fail;refine H1.mono ?_;rintro e w2 ⟨rfl,o2,E2,S2⟩;have T2:=T1.trans S2;clear S2 c0 c1 c2 c3 x0 x1 x2 x3 H1;obtain⟨c0,c1,c2,c3⟩:=KK.out _ _ T2;obtain⟨l1,-⟩:=E2.cl;rw[hlf] at l1;obtain⟨al,cl,l8⟩:=hLL w2 o2 E2;go_wp2_with fail;refine(hP w2 o2 E2).mono ?_;rintro e w3 ⟨rfl,o3,E3,S3⟩;have T3:=T2.trans S3;clear S3 c0 c1 c2 c3 hP l1 l8;obtain⟨c0,c1,c2,c3⟩:=KK.out _ _ T3;go_wp2_with fail;refine(hC w3 o3 (X1.step T3 aA) E3).mono ?_;rintro e w4 ⟨rfl,o4,E4,S4⟩;have T4:=T3.trans S4;clear S4 c0 c1 c2 c3 hC;obtain⟨c0,c1,c2,c3⟩:=KK.out _ _ T4;obtain⟨y0,y1,y2,y3⟩:Nd8 w4 b off y ak1 ck1:=NK1 T4 aA;have HY:=hY w4 o4 (Sy.stepO T4 aA) (X1.step T4 aA) E4;go_wp2_with fail;refine HY.mono ?_;rintro e w5 ⟨rfl,o5,E5,S5⟩;have T5:=T4.trans S5;clear S5 c0 c1 c2 c3 y0 y1 y2 y3 HY hY;obtain⟨c0,c1,c2,c3⟩:=KK.out _ _ T5;go_wp2_with fail;refine(gA w5 o5 E5).mono ?_;rintro e w6 ⟨rfl,o6,E6,S6⟩;have T6:=T5.trans S6;clear S6 c0 c1 c2 c3 gA;obtain⟨c0,c1,c2,c3⟩:=KK.out _ _ T6;go_wp2
  go_end0
  exact⟨rfl,o6,E6,S0.trans T6⟩
theorem Ap (K:Nat->Int)(nc N:Nat)(HP:eu K nc N)(n:Int)(nm:List UInt8)(a:Int)(x y:Ex)(ao:Option Addr)(cap ar:Nat)(w:World)(o:Nat->Nat)(rb:Nat)(p0 p1 p2 p3 p4:Value)(lv:List Int)(s:Dp)(m:Nat)(hn:n=2)(hN:(Fs.ex x (Fs.ex y .nil)).size<=N)(ho:okE nc ⟨21,n,nm,a,(Fs.ex x (Fs.ex y .nil))⟩)(hsk:skF K (Fs.ex x (Fs.ex y .nil)) 21 0)(hlv:lv.length=nc)(hnc:nc<=256)(har:ar+(Fs.ex x (Fs.ex y .nil)).size<=1000000)(hsz:(Fs.ex x (Fs.ex y .nil)).size<=100000)(S:SnO w o (Fs.ex x (Fs.ex y .nil)) ao)(hks:s.ks.length=nc)(hz:s.sz m)(hm:m+(17*(Fs.ex x (Fs.ex y .nil)).size+16)<=100000000)(X:DX w o p4 lv)(h:DW w o rb p0 p1 p2 p3 p4 s) :
  Calls Tryz.prog 82 #[pt0 rb,exN ⟨21,n,nm,a,(Fs.ex x (Fs.ex y .nil))⟩ ao cap,.int .i64 (ar:Nat)] w (cH w o rb p0 p1 p2 p3 p4 (iF lv n (deE lv x) (deE lv y) ar s) (.tuple #[])):=by
 have hok:=ho.2;simp only at hok;have ox:=(aK hok).1;have oy:=(aK (aK hok).2).1;have hx4:22<=x.k/\x.k<=25:=hsk.1.2 ⟨rfl,rfl⟩;have sx:=hsk.2.2.1;have sy:skE K y:=⟨fun hs=>absurd (hsk.2.2.2.1.1 hs).2 (by omega),hsk.2.2.2.2.1,hsk.2.2.2.2.2.1⟩
 simp only[aV,Fs.size] at hN har hsz hm;obtain⟨w1,o1,g,hw1,HG,B1,E1,X1,SN1,S0⟩:=dl #[.int .i64 21,.int .i64 n,stv nm,.slice ao (Fs.ex x (Fs.ex y .nil)).len cap] h X S;have KK:=dm B1;obtain⟨c0,c1,c2,c3⟩:=KK.out _ _ (aa.refl I17 w1 o1);obtain⟨l1,-⟩:=E1.cl;have T1:=aa.refl I17 w1 o1;clear B1 h X S;rw[ah];simp only;obtain⟨b,off,ak,ck,hao,NN,Sx,NK⟩:=dQ (x:=.nil) SN1 0 rfl;obtain⟨b1,off1,ak1,ck1,hao1,NN1,Sy,NK1⟩:=dQ (x:=one x) SN1 1 rfl;subst hao;injection hao1 with hao1
 injection hao1 with e1 e2
 subst e1 e2;have hlen:(Fs.ex x (Fs.ex y .nil)).len=2:=rfl;rw[hlen] at hw1 KK c3 ⊢;obtain⟨x0,x1,x2,x3⟩:Nd4 w1 b off x ak ck:=NN;have H1:=mg K nc N HP x.k x.n x.nm x.a x.kids ak ck ar w1 o1 rb p0 p1 p2 p3 p4 lv s m hx4 (by omega) ox sx hlv hnc (by omega) (by omega) Sx hks hz (by omega) X1 E1;rw[<-iW hx4] at H1;rw[ah] at H1;have dA:=bQ lv x ar s;unfold iF
 dsimp only
 generalize deE lv x ar s=A at *;have zA:=dA.sz m hz;obtain⟨Bq,hBq⟩:∃Bq,Bq=eF n A:=⟨_,rfl⟩
 rw[<-hBq];have hB:Bq=A:=by rw[hBq];rcases hn with rfl<;>rfl
 have dB:Dle 4 A Bq:=by rw[hBq];exact ig n A
 have zB:=dB.sz _ zA;have kB:Bq.ks.length=nc:=(dB.ks.trans dA.ks).trans hks;subst hB;clear hBq dA dB hz hks;by_cases hlg:Bq.lg=true
 ·rw[if_pos hlg];have HP:=0;clear HP;clear Sx Sy NK NK1 NN1 hok ox oy sx sy hx4 hsk ho zA zB kB X1 SN1 l1 hlen E1;subst hn;go_enter Tryz.func82,Tryz.ntmps82;go_upto_region 1 with fail;rw[<-hw1,<-HG.out];clear hw1;go_wp2_with fail;refine H1.mono ?_;rintro e w2 ⟨rfl,o2,E2,S2⟩;have T2:=T1.trans S2;clear S2 c0 c1 c2 c3 x0 x1 x2 x3 H1;obtain⟨c0,c1,c2,c3⟩:=KK.out _ _ T2;obtain⟨l1,-⟩:=E2.cl;rw[hlg] at l1;go_wp2
  go_end0
  exact⟨rfl,o2,E2,S0.trans T2⟩
 ·rw[if_neg hlg];have hlf:Bq.lg=false:=by simpa using hlg
  have hP:=fun wx ox' E=>aS wx ox' rb p0 p1 p2 p3 p4 Bq 24 0 0 E;have dP:=aq Bq 24 0 0;have dC:=fa (ar+1) lv 0 (Bq.puts 24 0 0);have zC:=dC.sz _ (dP.sz _ zB);have kC:=(dC.ks.trans dP.ks).trans kB;have hC:=fun wx ox' X E=>gu ar wx ox' rb p0 p1 p2 p3 p4 lv (Bq.puts 24 0 0) (by omega) (by omega) X E;generalize fB (ar+1) lv 0 (Bq.puts 24 0 0)=C at *;have hY:=fun wx ox' S X E=>HP y ak1 ck1 (ar+1) wx ox' rb p0 p1 p2 p3 p4 lv C _ (by omega) oy sy hlv hnc (by omega) (by omega) S kC zC (by omega) X E;simp only[ah] at hY;rw[show ((ar+1:Nat):Int)=(ar:Int)+1 from rfl] at hY;have dE:=bQ lv y (ar+1) C;generalize deE lv y (ar+1) C=F at *;have zF:=dE.sz _ zC;have lF:F.lg=false->Bq.at1<F.ws.length:=dO (dC.trans dE);generalize hat:Bq.at1=iB at *;generalize hgl:Bq.ws.length=gB at *;have hLL:∀ wx ox',DW wx ox' rb p0 p1 p2 p3 p4 Bq->∃ao cap,wx.cell? ⟨rb,8,none⟩=some (.slice ao gB cap):=fun wx ox' E=>by rw[<-hgl];exact E.ll
  have gA:=fun wx ox' E=>Al gB iB wx ox' rb p0 p1 p2 p3 p4 F _ zF (by omega) lF E;clear lF zF dE zC dC dP;subst hn;rw[if_pos (by omega)];clear hok ox oy sx sy hx4 hsk ho zA zB kB kC HP hat hgl l1 hlen E1 SN1;go_enter Tryz.func82,Tryz.ntmps82;go_upto_region 1 with fail;rw[<-hw1,<-HG.out];clear hw1;go_wp2_with fail;refine H1.mono ?_;rintro e w2 ⟨rfl,o2,E2,S2⟩;have T2:=T1.trans S2;clear S2 c0 c1 c2 c3 x0 x1 x2 x3 H1;obtain⟨c0,c1,c2,c3⟩:=KK.out _ _ T2;obtain⟨l1,-⟩:=E2.cl;rw[hlf] at l1;obtain⟨al,cl,l8⟩:=hLL w2 o2 E2;go_wp2_with fail;refine(hP w2 o2 E2).mono ?_;rintro e w3 ⟨rfl,o3,E3,S3⟩;have T3:=T2.trans S3;clear S3 c0 c1 c2 c3 hP l1 l8;obtain⟨c0,c1,c2,c3⟩:=KK.out _ _ T3;go_wp2_with fail;refine(hC w3 o3 (X1.step T3 aA) E3).mono ?_;rintro e w4 ⟨rfl,o4,E4,S4⟩;have T4:=T3.trans S4;clear S4 c0 c1 c2 c3 hC;obtain⟨c0,c1,c2,c3⟩:=KK.out _ _ T4;obtain⟨y0,y1,y2,y3⟩:Nd8 w4 b off y ak1 ck1:=NK1 T4 aA;have HY:=hY w4 o4 (Sy.stepO T4 aA) (X1.step T4 aA) E4;go_wp2_with fail;refine HY.mono ?_;rintro e w5 ⟨rfl,o5,E5,S5⟩;have T5:=T4.trans S5;clear S5 c0 c1 c2 c3 y0 y1 y2 y3 HY hY;obtain⟨c0,c1,c2,c3⟩:=KK.out _ _ T5;go_wp2_with fail;refine(gA w5 o5 E5).mono ?_;rintro e w6 ⟨rfl,o6,E6,S6⟩;have T6:=T5.trans S6;clear S6 c0 c1 c2 c3 gA;obtain⟨c0,c1,c2,c3⟩:=KK.out _ _ T6;go_wp2
  go_end0
  exact⟨rfl,o6,E6,S0.trans T6⟩
theorem Au (K:Nat->Int)(nc N:Nat)(HP:eu K nc N)(n:Int)(nm:List UInt8)(a:Int)(x y:Ex)(ao:Option Addr)(cap ar:Nat)(w:World)(o:Nat->Nat)(rb:Nat)(p0 p1 p2 p3 p4:Value)(lv:List Int)(s:Dp)(m:Nat)(hn:n=3)(hN:(Fs.ex x (Fs.ex y .nil)).size<=N)(ho:okE nc ⟨21,n,nm,a,(Fs.ex x (Fs.ex y .nil))⟩)(hsk:skF K (Fs.ex x (Fs.ex y .nil)) 21 0)(hlv:lv.length=nc)(hnc:nc<=256)(har:ar+(Fs.ex x (Fs.ex y .nil)).size<=1000000)(hsz:(Fs.ex x (Fs.ex y .nil)).size<=100000)(S:SnO w o (Fs.ex x (Fs.ex y .nil)) ao)(hks:s.ks.length=nc)(hz:s.sz m)(hm:m+(17*(Fs.ex x (Fs.ex y .nil)).size+16)<=100000000)(X:DX w o p4 lv)(h:DW w o rb p0 p1 p2 p3 p4 s) :
  Calls Tryz.prog 82 #[pt0 rb,exN ⟨21,n,nm,a,(Fs.ex x (Fs.ex y .nil))⟩ ao cap,.int .i64 (ar:Nat)] w (cH w o rb p0 p1 p2 p3 p4 (iF lv n (deE lv x) (deE lv y) ar s) (.tuple #[])):=by
 have hok:=ho.2;simp only at hok;have ox:=(aK hok).1;have oy:=(aK (aK hok).2).1;have hx4:22<=x.k/\x.k<=25:=hsk.1.2 ⟨rfl,rfl⟩;have sx:=hsk.2.2.1;have sy:skE K y:=⟨fun hs=>absurd (hsk.2.2.2.1.1 hs).2 (by omega),hsk.2.2.2.2.1,hsk.2.2.2.2.2.1⟩
 simp only[aV,Fs.size] at hN har hsz hm;obtain⟨w1,o1,g,hw1,HG,B1,E1,X1,SN1,S0⟩:=dl #[.int .i64 21,.int .i64 n,stv nm,.slice ao (Fs.ex x (Fs.ex y .nil)).len cap] h X S;have KK:=dm B1;obtain⟨c0,c1,c2,c3⟩:=KK.out _ _ (aa.refl I17 w1 o1);obtain⟨l1,-⟩:=E1.cl;have T1:=aa.refl I17 w1 o1;clear B1 h X S;rw[ah];simp only;obtain⟨b,off,ak,ck,hao,NN,Sx,NK⟩:=dQ (x:=.nil) SN1 0 rfl;obtain⟨b1,off1,ak1,ck1,hao1,NN1,Sy,NK1⟩:=dQ (x:=one x) SN1 1 rfl;subst hao;injection hao1 with hao1
 injection hao1 with e1 e2
 subst e1 e2;have hlen:(Fs.ex x (Fs.ex y .nil)).len=2:=rfl;rw[hlen] at hw1 KK c3 ⊢;obtain⟨x0,x1,x2,x3⟩:Nd4 w1 b off x ak ck:=NN;have H1:=mg K nc N HP x.k x.n x.nm x.a x.kids ak ck ar w1 o1 rb p0 p1 p2 p3 p4 lv s m hx4 (by omega) ox sx hlv hnc (by omega) (by omega) Sx hks hz (by omega) X1 E1;rw[<-iW hx4] at H1;rw[ah] at H1;have dA:=bQ lv x ar s;unfold iF
 dsimp only
 generalize deE lv x ar s=A at *;have zA:=dA.sz m hz;obtain⟨Bq,hBq⟩:∃Bq,Bq=eF n A:=⟨_,rfl⟩
 rw[<-hBq];have hB:Bq=(A.val 0 1):=by rw[hBq];rcases hn with rfl<;>rfl
 have dB:Dle 4 A Bq:=by rw[hBq];exact ig n A
 have zB:=dB.sz _ zA;have kB:Bq.ks.length=nc:=(dB.ks.trans dA.ks).trans hks;have hV:=fun wx ox' E=>du wx ox' rb p0 p1 p2 p3 p4 A 0 1 _ zA (by omega) E;rw[<-hB] at hV;clear hBq dA dB hz hks;by_cases hlg:Bq.lg=true
 ·rw[if_pos hlg];have HP:=0;clear HP;clear Sx Sy NK NK1 NN1 hok ox oy sx sy hx4 hsk ho zA zB kB X1 SN1 l1 hlen E1;subst hn;go_enter Tryz.func82,Tryz.ntmps82;go_upto_region 1 with fail;rw[<-hw1,<-HG.out];clear hw1;go_wp2_with fail;refine H1.mono ?_;rintro e w2 ⟨rfl,o2,E2,S2⟩;have T2:=T1.trans S2;clear S2 c0 c1 c2 c3 x0 x1 x2 x3 H1;obtain⟨c0,c1,c2,c3⟩:=KK.out _ _ T2;go_wp2_with fail;refine(hV w2 o2 E2).mono ?_;rintro e w3 ⟨rfl,o3,E3,S3⟩;have T3:=T2.trans S3;clear S3 c0 c1 c2 c3 hV;obtain⟨c0,c1,c2,c3⟩:=KK.out _ _ T3;obtain⟨l1,-⟩:=E3.cl;rw[hlg] at l1;go_wp2
  go_end0
  exact⟨rfl,o3,E3,S0.trans T3⟩
 ·rw[if_neg hlg];have hlf:Bq.lg=false:=by simpa using hlg
  have hP:=fun wx ox' E=>aS wx ox' rb p0 p1 p2 p3 p4 Bq 24 0 0 E;have dP:=aq Bq 24 0 0;have dC:=fa (ar+1) lv 0 (Bq.puts 24 0 0);have zC:=dC.sz _ (dP.sz _ zB);have kC:=(dC.ks.trans dP.ks).trans kB;have hC:=fun wx ox' X E=>gu ar wx ox' rb p0 p1 p2 p3 p4 lv (Bq.puts 24 0 0) (by omega) (by omega) X E;generalize fB (ar+1) lv 0 (Bq.puts 24 0 0)=C at *;have hY:=fun wx ox' S X E=>HP y ak1 ck1 (ar+1) wx ox' rb p0 p1 p2 p3 p4 lv C _ (by omega) oy sy hlv hnc (by omega) (by omega) S kC zC (by omega) X E;simp only[ah] at hY;rw[show ((ar+1:Nat):Int)=(ar:Int)+1 from rfl] at hY;have dE:=bQ lv y (ar+1) C;generalize deE lv y (ar+1) C=F at *;have zF:=dE.sz _ zC;have lF:F.lg=false->Bq.at1<F.ws.length:=dO (dC.trans dE);generalize hat:Bq.at1=iB at *;generalize hgl:Bq.ws.length=gB at *;have hLL:∀ wx ox',DW wx ox' rb p0 p1 p2 p3 p4 Bq->∃ao cap,wx.cell? ⟨rb,8,none⟩=some (.slice ao gB cap):=fun wx ox' E=>by rw[<-hgl];exact E.ll
  have gA:=fun wx ox' E=>aS wx ox' rb p0 p1 p2 p3 p4 F 14 gB 0 E;have z1:=(aq F 14 gB 0).sz _ zF;have gC:=fun wx ox' E=>bh wx ox' rb p0 p1 p2 p3 p4 _ (-1) _ z1 (by omega) (by omega) E;have d1:=aP (F.puts 14 gB 0) (-1) 1 (by omega) (by omega);have z2:=d1.sz _ z1;have gD:=fun wx ox' E=>du wx ox' rb p0 p1 p2 p3 p4 ((F.puts 14 gB 0).grows (-1)) 1 1 _ z2 (by omega) E;have gE:=fun wx ox' E=>aS wx ox' rb p0 p1 p2 p3 p4 (((F.puts 14 gB 0).grows (-1)).val 1 1) 6 0 0 E;have z3:=(aq _ 6 0 0).sz _ ((bP ((F.puts 14 gB 0).grows (-1)) 1 1).sz _ z2);have gF:=fun wx ox' E=>bh wx ox' rb p0 p1 p2 p3 p4 _ (-1) _ z3 (by omega) (by omega) E;have dM:=kT 3 gB F;generalize hM:mJ 3 gB F=M at *;have hM2:(((((F.puts 14 gB 0).grows (-1)).val 1 1).puts 6 0 0).grows (-1))=M:=hM;rw[hM2] at gF;have gG:=fun wx ox' E=>aS wx ox' rb p0 p1 p2 p3 p4 M 13 gB 0 E;have lM:(M.puts 13 gB 0).lg=false->iB<(M.puts 13 gB 0).ws.length:=fun hl=>Nat.lt_of_lt_of_le (lF (by cases hs:F.lg with|false=>rfl|true=>rw[(dM.trans (aq M 13 gB 0)).lg hs] at hl;cases hl)) (dM.trans (aq M 13 gB 0)).w2;have gH:=fun wx ox' E=>db wx ox' rb p0 p1 p2 p3 p4 (M.puts 13 gB 0) iB lM E;clear z1 z2 z3 d1 dM lM lF zF dE zC dC dP;subst hn;rw[if_neg (by omega)];have hfin:mI 3 gB iB F=(M.puts 13 gB 0).lands iB:=by rw[<-hM];rfl
  rw[hfin];clear hfin hM hM2;clear hok ox oy sx sy hx4 hsk ho zA zB kB kC HP hat hgl l1 hlen E1 SN1;go_enter Tryz.func82,Tryz.ntmps82;go_upto_region 1 with fail;rw[<-hw1,<-HG.out];clear hw1;go_wp2_with fail;refine H1.mono ?_;rintro e w2 ⟨rfl,o2,E2,S2⟩;have T2:=T1.trans S2;clear S2 c0 c1 c2 c3 x0 x1 x2 x3 H1;obtain⟨c0,c1,c2,c3⟩:=KK.out _ _ T2;go_wp2_with fail;refine(hV w2 o2 E2).mono ?_;rintro e w3 ⟨rfl,o3,E3,S3⟩;have T3:=T2.trans S3;clear S3 c0 c1 c2 c3 hV;obtain⟨c0,c1,c2,c3⟩:=KK.out _ _ T3;obtain⟨l1,-⟩:=E3.cl;rw[hlf] at l1;obtain⟨al,cl,l8⟩:=hLL w3 o3 E3;go_wp2_with fail;refine(hP w3 o3 E3).mono ?_;rintro e w4 ⟨rfl,o4,E4,S4⟩;have T4:=T3.trans S4;clear S4 c0 c1 c2 c3 hP l1 l8;obtain⟨c0,c1,c2,c3⟩:=KK.out _ _ T4;go_wp2_with fail;refine(hC w4 o4 (X1.step T4 aA) E4).mono ?_;rintro e w5 ⟨rfl,o5,E5,S5⟩;have T5:=T4.trans S5;clear S5 c0 c1 c2 c3 hC;obtain⟨c0,c1,c2,c3⟩:=KK.out _ _ T5;obtain⟨y0,y1,y2,y3⟩:Nd8 w5 b off y ak1 ck1:=NK1 T5 aA;have HY:=hY w5 o5 (Sy.stepO T5 aA) (X1.step T5 aA) E5;go_wp2_with fail;refine HY.mono ?_;rintro e w6 ⟨rfl,o6,E6,S6⟩;have T6:=T5.trans S6;clear S6 c0 c1 c2 c3 y0 y1 y2 y3 HY hY;obtain⟨c0,c1,c2,c3⟩:=KK.out _ _ T6;go_wp2_with fail;refine(gA w6 o6 E6).mono ?_;rintro e w7 ⟨rfl,o7,E7,S7⟩;have T7:=T6.trans S7;clear S7 c0 c1 c2 c3 gA;obtain⟨c0,c1,c2,c3⟩:=KK.out _ _ T7;go_wp2_with fail;refine(gC w7 o7 E7).mono ?_;rintro e w8 ⟨rfl,o8,E8,S8⟩;have T8:=T7.trans S8;clear S8 c0 c1 c2 c3 gC;obtain⟨c0,c1,c2,c3⟩:=KK.out _ _ T8;go_wp2_with fail;refine(gD w8 o8 E8).mono ?_;rintro e w9 ⟨rfl,o9,E9,S9⟩;have T9:=T8.trans S9;clear S9 c0 c1 c2 c3 gD;obtain⟨c0,c1,c2,c3⟩:=KK.out _ _ T9;go_wp2_with fail;refine(gE w9 o9 E9).mono ?_;rintro e w10 ⟨rfl,o10,E10,S10⟩;have T10:=T9.trans S10;clear S10 c0 c1 c2 c3 gE;obtain⟨c0,c1,c2,c3⟩:=KK.out _ _ T10;go_wp2_with fail;refine(gF w10 o10 E10).mono ?_;rintro e w11 ⟨rfl,o11,E11,S11⟩;have T11:=T10.trans S11;clear S11 c0 c1 c2 c3 gF;obtain⟨c0,c1,c2,c3⟩:=KK.out _ _ T11;go_wp2_with fail;refine(gG w11 o11 E11).mono ?_;rintro e w12 ⟨rfl,o12,E12,S12⟩;have T12:=T11.trans S12;clear S12 c0 c1 c2 c3 gG;obtain⟨c0,c1,c2,c3⟩:=KK.out _ _ T12;go_wp2_with fail;refine(gH w12 o12 E12).mono ?_;rintro e w13 ⟨rfl,o13,E13,S13⟩;have T13:=T12.trans S13;clear S13 c0 c1 c2 c3 gH;obtain⟨c0,c1,c2,c3⟩:=KK.out _ _ T13;go_wp2
  go_end0
  exact⟨rfl,o13,E13,S0.trans T13⟩
theorem zY (K:Nat->Int)(nc N:Nat)(HP:eu K nc N)(n:Int)(nm:List UInt8)(a:Int)(x y:Ex)(ao:Option Addr)(cap ar:Nat)(w:World)(o:Nat->Nat)(rb:Nat)(p0 p1 p2 p3 p4:Value)(lv:List Int)(s:Dp)(m:Nat)(hn:n=4)(hN:(Fs.ex x (Fs.ex y .nil)).size<=N)(ho:okE nc ⟨21,n,nm,a,(Fs.ex x (Fs.ex y .nil))⟩)(hsk:skF K (Fs.ex x (Fs.ex y .nil)) 21 0)(hlv:lv.length=nc)(hnc:nc<=256)(har:ar+(Fs.ex x (Fs.ex y .nil)).size<=1000000)(hsz:(Fs.ex x (Fs.ex y .nil)).size<=100000)(S:SnO w o (Fs.ex x (Fs.ex y .nil)) ao)(hks:s.ks.length=nc)(hz:s.sz m)(hm:m+(17*(Fs.ex x (Fs.ex y .nil)).size+16)<=100000000)(X:DX w o p4 lv)(h:DW w o rb p0 p1 p2 p3 p4 s) :
  Calls Tryz.prog 82 #[pt0 rb,exN ⟨21,n,nm,a,(Fs.ex x (Fs.ex y .nil))⟩ ao cap,.int .i64 (ar:Nat)] w (cH w o rb p0 p1 p2 p3 p4 (iF lv n (deE lv x) (deE lv y) ar s) (.tuple #[])):=by
 have hok:=ho.2;simp only at hok;have ox:=(aK hok).1;have oy:=(aK (aK hok).2).1;have hx4:22<=x.k/\x.k<=25:=hsk.1.2 ⟨rfl,rfl⟩;have sx:=hsk.2.2.1;have sy:skE K y:=⟨fun hs=>absurd (hsk.2.2.2.1.1 hs).2 (by omega),hsk.2.2.2.2.1,hsk.2.2.2.2.2.1⟩
 simp only[aV,Fs.size] at hN har hsz hm;obtain⟨w1,o1,g,hw1,HG,B1,E1,X1,SN1,S0⟩:=dl #[.int .i64 21,.int .i64 n,stv nm,.slice ao (Fs.ex x (Fs.ex y .nil)).len cap] h X S;have KK:=dm B1;obtain⟨c0,c1,c2,c3⟩:=KK.out _ _ (aa.refl I17 w1 o1);obtain⟨l1,-⟩:=E1.cl;have T1:=aa.refl I17 w1 o1;clear B1 h X S;rw[ah];simp only;obtain⟨b,off,ak,ck,hao,NN,Sx,NK⟩:=dQ (x:=.nil) SN1 0 rfl;obtain⟨b1,off1,ak1,ck1,hao1,NN1,Sy,NK1⟩:=dQ (x:=one x) SN1 1 rfl;subst hao;injection hao1 with hao1
 injection hao1 with e1 e2
 subst e1 e2;have hlen:(Fs.ex x (Fs.ex y .nil)).len=2:=rfl;rw[hlen] at hw1 KK c3 ⊢;obtain⟨x0,x1,x2,x3⟩:Nd4 w1 b off x ak ck:=NN;have H1:=mg K nc N HP x.k x.n x.nm x.a x.kids ak ck ar w1 o1 rb p0 p1 p2 p3 p4 lv s m hx4 (by omega) ox sx hlv hnc (by omega) (by omega) Sx hks hz (by omega) X1 E1;rw[<-iW hx4] at H1;rw[ah] at H1;have dA:=bQ lv x ar s;unfold iF
 dsimp only
 generalize deE lv x ar s=A at *;have zA:=dA.sz m hz;obtain⟨Bq,hBq⟩:∃Bq,Bq=eF n A:=⟨_,rfl⟩
 rw[<-hBq];have hB:Bq=(A.val 0 1):=by rw[hBq];rcases hn with rfl<;>rfl
 have dB:Dle 4 A Bq:=by rw[hBq];exact ig n A
 have zB:=dB.sz _ zA;have kB:Bq.ks.length=nc:=(dB.ks.trans dA.ks).trans hks;have hV:=fun wx ox' E=>du wx ox' rb p0 p1 p2 p3 p4 A 0 1 _ zA (by omega) E;rw[<-hB] at hV;clear hBq dA dB hz hks;by_cases hlg:Bq.lg=true
 ·rw[if_pos hlg];have HP:=0;clear HP;clear Sx Sy NK NK1 NN1 hok ox oy sx sy hx4 hsk ho zA zB kB X1 SN1 l1 hlen E1;subst hn;go_enter Tryz.func82,Tryz.ntmps82;go_upto_region 1 with fail;rw[<-hw1,<-HG.out];clear hw1;go_wp2_with fail;refine H1.mono ?_;rintro e w2 ⟨rfl,o2,E2,S2⟩;have T2:=T1.trans S2;clear S2 c0 c1 c2 c3 x0 x1 x2 x3 H1;obtain⟨c0,c1,c2,c3⟩:=KK.out _ _ T2;go_wp2_with fail;refine(hV w2 o2 E2).mono ?_;rintro e w3 ⟨rfl,o3,E3,S3⟩;have T3:=T2.trans S3;clear S3 c0 c1 c2 c3 hV;obtain⟨c0,c1,c2,c3⟩:=KK.out _ _ T3;obtain⟨l1,-⟩:=E3.cl;rw[hlg] at l1;go_wp2
  go_end0
  exact⟨rfl,o3,E3,S0.trans T3⟩
 ·rw[if_neg hlg];have hlf:Bq.lg=false:=by simpa using hlg
  have hP:=fun wx ox' E=>aS wx ox' rb p0 p1 p2 p3 p4 Bq 24 0 0 E;have dP:=aq Bq 24 0 0;have dC:=fa (ar+1) lv 0 (Bq.puts 24 0 0);have zC:=dC.sz _ (dP.sz _ zB);have kC:=(dC.ks.trans dP.ks).trans kB;have hC:=fun wx ox' X E=>gu ar wx ox' rb p0 p1 p2 p3 p4 lv (Bq.puts 24 0 0) (by omega) (by omega) X E;generalize fB (ar+1) lv 0 (Bq.puts 24 0 0)=C at *;have hY:=fun wx ox' S X E=>HP y ak1 ck1 (ar+1) wx ox' rb p0 p1 p2 p3 p4 lv C _ (by omega) oy sy hlv hnc (by omega) (by omega) S kC zC (by omega) X E;simp only[ah] at hY;rw[show ((ar+1:Nat):Int)=(ar:Int)+1 from rfl] at hY;have dE:=bQ lv y (ar+1) C;generalize deE lv y (ar+1) C=F at *;have zF:=dE.sz _ zC;have lF:F.lg=false->Bq.at1<F.ws.length:=dO (dC.trans dE);generalize hat:Bq.at1=iB at *;generalize hgl:Bq.ws.length=gB at *;have hLL:∀ wx ox',DW wx ox' rb p0 p1 p2 p3 p4 Bq->∃ao cap,wx.cell? ⟨rb,8,none⟩=some (.slice ao gB cap):=fun wx ox' E=>by rw[<-hgl];exact E.ll
  have gA:=fun wx ox' E=>aS wx ox' rb p0 p1 p2 p3 p4 F 6 0 0 E;have z1:=(aq F 6 0 0).sz _ zF;have gC:=fun wx ox' E=>bh wx ox' rb p0 p1 p2 p3 p4 _ (-1) _ z1 (by omega) (by omega) E;have dM:=kT 4 gB F;generalize hM:mJ 4 gB F=M at *;have hM2:((F.puts 6 0 0).grows (-1))=M:=hM;rw[hM2] at gC;have gG:=fun wx ox' E=>aS wx ox' rb p0 p1 p2 p3 p4 M 13 gB 0 E;have lM:(M.puts 13 gB 0).lg=false->iB<(M.puts 13 gB 0).ws.length:=fun hl=>Nat.lt_of_lt_of_le (lF (by cases hs:F.lg with|false=>rfl|true=>rw[(dM.trans (aq M 13 gB 0)).lg hs] at hl;cases hl)) (dM.trans (aq M 13 gB 0)).w2;have gH:=fun wx ox' E=>db wx ox' rb p0 p1 p2 p3 p4 (M.puts 13 gB 0) iB lM E;clear z1 dM lM lF zF dE zC dC dP;subst hn;rw[if_neg (by omega)];have hfin:mI 4 gB iB F=(M.puts 13 gB 0).lands iB:=by rw[<-hM];rfl
  rw[hfin];clear hfin hM hM2;clear hok ox oy sx sy hx4 hsk ho zA zB kB kC HP hat hgl l1 hlen E1 SN1;go_enter Tryz.func82,Tryz.ntmps82;go_upto_region 1 with fail;rw[<-hw1,<-HG.out];clear hw1;go_wp2_with fail;refine H1.mono ?_;rintro e w2 ⟨rfl,o2,E2,S2⟩;have T2:=T1.trans S2;clear S2 c0 c1 c2 c3 x0 x1 x2 x3 H1;obtain⟨c0,c1,c2,c3⟩:=KK.out _ _ T2;go_wp2_with fail;refine(hV w2 o2 E2).mono ?_;rintro e w3 ⟨rfl,o3,E3,S3⟩;have T3:=T2.trans S3;clear S3 c0 c1 c2 c3 hV;obtain⟨c0,c1,c2,c3⟩:=KK.out _ _ T3;obtain⟨l1,-⟩:=E3.cl;rw[hlf] at l1;obtain⟨al,cl,l8⟩:=hLL w3 o3 E3;go_wp2_with fail;refine(hP w3 o3 E3).mono ?_;rintro e w4 ⟨rfl,o4,E4,S4⟩;have T4:=T3.trans S4;clear S4 c0 c1 c2 c3 hP l1 l8;obtain⟨c0,c1,c2,c3⟩:=KK.out _ _ T4;go_wp2_with fail;refine(hC w4 o4 (X1.step T4 aA) E4).mono ?_;rintro e w5 ⟨rfl,o5,E5,S5⟩;have T5:=T4.trans S5;clear S5 c0 c1 c2 c3 hC;obtain⟨c0,c1,c2,c3⟩:=KK.out _ _ T5;obtain⟨y0,y1,y2,y3⟩:Nd8 w5 b off y ak1 ck1:=NK1 T5 aA;have HY:=hY w5 o5 (Sy.stepO T5 aA) (X1.step T5 aA) E5;go_wp2_with fail;refine HY.mono ?_;rintro e w6 ⟨rfl,o6,E6,S6⟩;have T6:=T5.trans S6;clear S6 c0 c1 c2 c3 y0 y1 y2 y3 HY hY;obtain⟨c0,c1,c2,c3⟩:=KK.out _ _ T6;go_wp2_with fail;refine(gA w6 o6 E6).mono ?_;rintro e w7 ⟨rfl,o7,E7,S7⟩;have T7:=T6.trans S7;clear S7 c0 c1 c2 c3 gA;obtain⟨c0,c1,c2,c3⟩:=KK.out _ _ T7;go_wp2_with fail;refine(gC w7 o7 E7).mono ?_;rintro e w8 ⟨rfl,o8,E8,S8⟩;have T8:=T7.trans S8;clear S8 c0 c1 c2 c3 gC;obtain⟨c0,c1,c2,c3⟩:=KK.out _ _ T8;go_wp2_with fail;refine(gG w8 o8 E8).mono ?_;rintro e w9 ⟨rfl,o9,E9,S9⟩;have T9:=T8.trans S9;clear S9 c0 c1 c2 c3 gG;obtain⟨c0,c1,c2,c3⟩:=KK.out _ _ T9;go_wp2_with fail;refine(gH w9 o9 E9).mono ?_;rintro e w10 ⟨rfl,o10,E10,S10⟩;have T10:=T9.trans S10;clear S10 c0 c1 c2 c3 gH;obtain⟨c0,c1,c2,c3⟩:=KK.out _ _ T10;go_wp2
  go_end0
  exact⟨rfl,o10,E10,S0.trans T10⟩
theorem AE (K:Nat->Int)(nc N:Nat)(HP:eu K nc N)(n:Int)(nm:List UInt8)(a:Int)(x y:Ex)(ao:Option Addr)(cap ar:Nat)(w:World)(o:Nat->Nat)(rb:Nat)(p0 p1 p2 p3 p4:Value)(lv:List Int)(s:Dp)(m:Nat)(hn:n=5\/n=6)(hN:(Fs.ex x (Fs.ex y .nil)).size<=N)(ho:okE nc ⟨21,n,nm,a,(Fs.ex x (Fs.ex y .nil))⟩)(hsk:skF K (Fs.ex x (Fs.ex y .nil)) 21 0)(hlv:lv.length=nc)(hnc:nc<=256)(har:ar+(Fs.ex x (Fs.ex y .nil)).size<=1000000)(hsz:(Fs.ex x (Fs.ex y .nil)).size<=100000)(S:SnO w o (Fs.ex x (Fs.ex y .nil)) ao)(hks:s.ks.length=nc)(hz:s.sz m)(hm:m+(17*(Fs.ex x (Fs.ex y .nil)).size+16)<=100000000)(X:DX w o p4 lv)(h:DW w o rb p0 p1 p2 p3 p4 s) :
  Calls Tryz.prog 82 #[pt0 rb,exN ⟨21,n,nm,a,(Fs.ex x (Fs.ex y .nil))⟩ ao cap,.int .i64 (ar:Nat)] w (cH w o rb p0 p1 p2 p3 p4 (iF lv n (deE lv x) (deE lv y) ar s) (.tuple #[])):=by
 have hok:=ho.2;simp only at hok;have ox:=(aK hok).1;have oy:=(aK (aK hok).2).1;have hx4:22<=x.k/\x.k<=25:=hsk.1.2 ⟨rfl,rfl⟩;have sx:=hsk.2.2.1;have sy:skE K y:=⟨fun hs=>absurd (hsk.2.2.2.1.1 hs).2 (by omega),hsk.2.2.2.2.1,hsk.2.2.2.2.2.1⟩
 simp only[aV,Fs.size] at hN har hsz hm;obtain⟨w1,o1,g,hw1,HG,B1,E1,X1,SN1,S0⟩:=dl #[.int .i64 21,.int .i64 n,stv nm,.slice ao (Fs.ex x (Fs.ex y .nil)).len cap] h X S;have KK:=dm B1;obtain⟨c0,c1,c2,c3⟩:=KK.out _ _ (aa.refl I17 w1 o1);obtain⟨l1,-⟩:=E1.cl;have T1:=aa.refl I17 w1 o1;clear B1 h X S;rw[ah];simp only;obtain⟨b,off,ak,ck,hao,NN,Sx,NK⟩:=dQ (x:=.nil) SN1 0 rfl;obtain⟨b1,off1,ak1,ck1,hao1,NN1,Sy,NK1⟩:=dQ (x:=one x) SN1 1 rfl;subst hao;injection hao1 with hao1
 injection hao1 with e1 e2
 subst e1 e2;have hlen:(Fs.ex x (Fs.ex y .nil)).len=2:=rfl;rw[hlen] at hw1 KK c3 ⊢;obtain⟨x0,x1,x2,x3⟩:Nd4 w1 b off x ak ck:=NN;have H1:=mg K nc N HP x.k x.n x.nm x.a x.kids ak ck ar w1 o1 rb p0 p1 p2 p3 p4 lv s m hx4 (by omega) ox sx hlv hnc (by omega) (by omega) Sx hks hz (by omega) X1 E1;rw[<-iW hx4] at H1;rw[ah] at H1;have dA:=bQ lv x ar s;unfold iF
 dsimp only
 generalize deE lv x ar s=A at *;have zA:=dA.sz m hz;obtain⟨Bq,hBq⟩:∃Bq,Bq=eF n A:=⟨_,rfl⟩
 rw[<-hBq];have hB:Bq=((A.val 0 1).val 0 2):=by rw[hBq];rcases hn with rfl|rfl<;>rfl
 have dB:Dle 4 A Bq:=by rw[hBq];exact ig n A
 have zB:=dB.sz _ zA;have kB:Bq.ks.length=nc:=(dB.ks.trans dA.ks).trans hks;have hV:=fun wx ox' E=>du wx ox' rb p0 p1 p2 p3 p4 A 0 1 _ zA (by omega) E;have hV2:=fun wx ox' E=>du wx ox' rb p0 p1 p2 p3 p4 (A.val 0 1) 0 2 _ ((bP A 0 1).sz _ zA) (by omega) E;rw[<-hB] at hV2;clear hBq dA dB hz hks;by_cases hlg:Bq.lg=true
 ·rw[if_pos hlg];have HP:=0;clear HP;clear Sx Sy NK NK1 NN1 hok ox oy sx sy hx4 hsk ho zA zB kB X1 SN1 l1 hlen E1;rcases hn with rfl|rfl
  all_goals
   go_enter Tryz.func82,Tryz.ntmps82;go_upto_region 1 with fail;rw[<-hw1,<-HG.out];clear hw1;go_wp2_with fail;refine H1.mono ?_;rintro e w2 ⟨rfl,o2,E2,S2⟩;have T2:=T1.trans S2;clear S2 c0 c1 c2 c3 x0 x1 x2 x3 H1;obtain⟨c0,c1,c2,c3⟩:=KK.out _ _ T2;go_wp2_with fail;refine(hV w2 o2 E2).mono ?_;rintro e w3 ⟨rfl,o3,E3,S3⟩;have T3:=T2.trans S3;clear S3 c0 c1 c2 c3 hV;obtain⟨c0,c1,c2,c3⟩:=KK.out _ _ T3;go_wp2_with fail;refine(hV2 w3 o3 E3).mono ?_;rintro e w4 ⟨rfl,o4,E4,S4⟩;have T4:=T3.trans S4;clear S4 c0 c1 c2 c3 hV2;obtain⟨c0,c1,c2,c3⟩:=KK.out _ _ T4;obtain⟨l1,-⟩:=E4.cl;rw[hlg] at l1;go_wp2
   go_end0
   exact⟨rfl,o4,E4,S0.trans T4⟩
 ·rw[if_neg hlg];have hlf:Bq.lg=false:=by simpa using hlg
  have hP:=fun wx ox' E=>aS wx ox' rb p0 p1 p2 p3 p4 Bq 24 0 0 E;have dP:=aq Bq 24 0 0;have dC:=fa (ar+1) lv 0 (Bq.puts 24 0 0);have zC:=dC.sz _ (dP.sz _ zB);have kC:=(dC.ks.trans dP.ks).trans kB;have hC:=fun wx ox' X E=>gu ar wx ox' rb p0 p1 p2 p3 p4 lv (Bq.puts 24 0 0) (by omega) (by omega) X E;generalize fB (ar+1) lv 0 (Bq.puts 24 0 0)=C at *;have hY:=fun wx ox' S X E=>HP y ak1 ck1 (ar+1) wx ox' rb p0 p1 p2 p3 p4 lv C _ (by omega) oy sy hlv hnc (by omega) (by omega) S kC zC (by omega) X E;simp only[ah] at hY;rw[show ((ar+1:Nat):Int)=(ar:Int)+1 from rfl] at hY;have dE:=bQ lv y (ar+1) C;generalize deE lv y (ar+1) C=F at *;have zF:=dE.sz _ zC;have lF:F.lg=false->Bq.at1<F.ws.length:=dO (dC.trans dE);generalize hat:Bq.at1=iB at *;generalize hgl:Bq.ws.length=gB at *;have hLL:∀ wx ox',DW wx ox' rb p0 p1 p2 p3 p4 Bq->∃ao cap,wx.cell? ⟨rb,8,none⟩=some (.slice ao gB cap):=fun wx ox' E=>by rw[<-hgl];exact E.ll
  obtain⟨v,hv⟩:∃v,v=(n-5).toNat:=⟨_,rfl⟩
  have gA:=fun wx ox' E=>aS wx ox' rb p0 p1 p2 p3 p4 F 26 v 0 E;have z1:=(aq F 26 v 0).sz _ zF;have gC:=fun wx ox' E=>bh wx ox' rb p0 p1 p2 p3 p4 _ (-1) _ z1 (by omega) (by omega) E;have dM:=kT n gB F;have hM2:((F.puts 26 v 0).grows (-1))=mJ n gB F:=by rw[hv];rcases hn with rfl|rfl<;>rfl
  unfold mI
  dsimp only
  generalize mJ n gB F=M at *;rw[hM2] at gC;clear hM2;have gG:=fun wx ox' E=>aS wx ox' rb p0 p1 p2 p3 p4 M 13 gB 0 E;have lM:(M.puts 13 gB 0).lg=false->iB<(M.puts 13 gB 0).ws.length:=fun hl=>Nat.lt_of_lt_of_le (lF (by cases hs:F.lg with|false=>rfl|true=>rw[(dM.trans (aq M 13 gB 0)).lg hs] at hl;cases hl)) (dM.trans (aq M 13 gB 0)).w2;have gH:=fun wx ox' E=>db wx ox' rb p0 p1 p2 p3 p4 (M.puts 13 gB 0) iB lM E;have gI:=fun wx ox' E=>aS wx ox' rb p0 p1 p2 p3 p4 ((M.puts 13 gB 0).lands iB) 27 0 0 E;have z9:=(aq _ 27 0 0).sz _ ((aY _ iB).sz _ ((aq M 13 gB 0).sz _ (dM.sz _ zF)));have gJ:=fun wx ox' E=>bh wx ox' rb p0 p1 p2 p3 p4 _ (-1) _ z9 (by omega) (by omega) E;clear z9;clear z1 dM lM lF zF dE zC dC dP;rw[if_neg (show ¬(n=1\/n=2) by omega),if_pos (show 5<=n by omega)];clear hok ox oy sx sy hx4 hsk ho zA zB kB kC HP hat hgl l1 hlen E1 SN1;have hv1:(v:Int)=n-5:=by omega
  rcases hn with rfl|rfl
  ·obtain rfl:v=0:=by omega
   clear hv1 hv;go_enter Tryz.func82,Tryz.ntmps82;go_upto_region 1 with fail;rw[<-hw1,<-HG.out];clear hw1;go_wp2_with fail;refine H1.mono ?_;rintro e w2 ⟨rfl,o2,E2,S2⟩;have T2:=T1.trans S2;clear S2 c0 c1 c2 c3 x0 x1 x2 x3 H1;obtain⟨c0,c1,c2,c3⟩:=KK.out _ _ T2;go_wp2_with fail;refine(hV w2 o2 E2).mono ?_;rintro e w3 ⟨rfl,o3,E3,S3⟩;have T3:=T2.trans S3;clear S3 c0 c1 c2 c3 hV;obtain⟨c0,c1,c2,c3⟩:=KK.out _ _ T3;go_wp2_with fail;refine(hV2 w3 o3 E3).mono ?_;rintro e w4 ⟨rfl,o4,E4,S4⟩;have T4:=T3.trans S4;clear S4 c0 c1 c2 c3 hV2;obtain⟨c0,c1,c2,c3⟩:=KK.out _ _ T4;obtain⟨l1,-⟩:=E4.cl;rw[hlf] at l1;obtain⟨al,cl,l8⟩:=hLL w4 o4 E4;go_wp2_with fail;refine(hP w4 o4 E4).mono ?_;rintro e w5 ⟨rfl,o5,E5,S5⟩;have T5:=T4.trans S5;clear S5 c0 c1 c2 c3 hP l1 l8;obtain⟨c0,c1,c2,c3⟩:=KK.out _ _ T5;go_wp2_with fail;refine(hC w5 o5 (X1.step T5 aA) E5).mono ?_;rintro e w6 ⟨rfl,o6,E6,S6⟩;have T6:=T5.trans S6;clear S6 c0 c1 c2 c3 hC;obtain⟨c0,c1,c2,c3⟩:=KK.out _ _ T6;obtain⟨y0,y1,y2,y3⟩:Nd8 w6 b off y ak1 ck1:=NK1 T6 aA;have HY:=hY w6 o6 (Sy.stepO T6 aA) (X1.step T6 aA) E6;go_wp2_with fail;refine HY.mono ?_;rintro e w7 ⟨rfl,o7,E7,S7⟩;have T7:=T6.trans S7;clear S7 c0 c1 c2 c3 y0 y1 y2 y3 HY hY;obtain⟨c0,c1,c2,c3⟩:=KK.out _ _ T7;go_wp2_with fail;refine(gA w7 o7 E7).mono ?_;rintro e w8 ⟨rfl,o8,E8,S8⟩;have T8:=T7.trans S8;clear S8 c0 c1 c2 c3 gA;obtain⟨c0,c1,c2,c3⟩:=KK.out _ _ T8;go_wp2_with fail;refine(gC w8 o8 E8).mono ?_;rintro e w9 ⟨rfl,o9,E9,S9⟩;have T9:=T8.trans S9;clear S9 c0 c1 c2 c3 gC;obtain⟨c0,c1,c2,c3⟩:=KK.out _ _ T9;go_wp2_with fail;refine(gG w9 o9 E9).mono ?_;rintro e w10 ⟨rfl,o10,E10,S10⟩;have T10:=T9.trans S10;clear S10 c0 c1 c2 c3 gG;obtain⟨c0,c1,c2,c3⟩:=KK.out _ _ T10;go_wp2_with fail;refine(gH w10 o10 E10).mono ?_;rintro e w11 ⟨rfl,o11,E11,S11⟩;have T11:=T10.trans S11;clear S11 c0 c1 c2 c3 gH;obtain⟨c0,c1,c2,c3⟩:=KK.out _ _ T11;go_wp2_with fail;refine(gI w11 o11 E11).mono ?_;rintro e w12 ⟨rfl,o12,E12,S12⟩;have T12:=T11.trans S12;clear S12 c0 c1 c2 c3 gI;obtain⟨c0,c1,c2,c3⟩:=KK.out _ _ T12;go_wp2_with fail;refine(gJ w12 o12 E12).mono ?_;rintro e w13 ⟨rfl,o13,E13,S13⟩;have T13:=T12.trans S13;clear S13 c0 c1 c2 c3 gJ;obtain⟨c0,c1,c2,c3⟩:=KK.out _ _ T13;go_wp2
   go_end0
   exact⟨rfl,o13,E13,S0.trans T13⟩
  ·obtain rfl:v=1:=by omega
   clear hv1 hv;go_enter Tryz.func82,Tryz.ntmps82;go_upto_region 1 with fail;rw[<-hw1,<-HG.out];clear hw1;go_wp2_with fail;refine H1.mono ?_;rintro e w2 ⟨rfl,o2,E2,S2⟩;have T2:=T1.trans S2;clear S2 c0 c1 c2 c3 x0 x1 x2 x3 H1;obtain⟨c0,c1,c2,c3⟩:=KK.out _ _ T2;go_wp2_with fail;refine(hV w2 o2 E2).mono ?_;rintro e w3 ⟨rfl,o3,E3,S3⟩;have T3:=T2.trans S3;clear S3 c0 c1 c2 c3 hV;obtain⟨c0,c1,c2,c3⟩:=KK.out _ _ T3;go_wp2_with fail;refine(hV2 w3 o3 E3).mono ?_;rintro e w4 ⟨rfl,o4,E4,S4⟩;have T4:=T3.trans S4;clear S4 c0 c1 c2 c3 hV2;obtain⟨c0,c1,c2,c3⟩:=KK.out _ _ T4;obtain⟨l1,-⟩:=E4.cl;rw[hlf] at l1;obtain⟨al,cl,l8⟩:=hLL w4 o4 E4;go_wp2_with fail;refine(hP w4 o4 E4).mono ?_;rintro e w5 ⟨rfl,o5,E5,S5⟩;have T5:=T4.trans S5;clear S5 c0 c1 c2 c3 hP l1 l8;obtain⟨c0,c1,c2,c3⟩:=KK.out _ _ T5;go_wp2_with fail;refine(hC w5 o5 (X1.step T5 aA) E5).mono ?_;rintro e w6 ⟨rfl,o6,E6,S6⟩;have T6:=T5.trans S6;clear S6 c0 c1 c2 c3 hC;obtain⟨c0,c1,c2,c3⟩:=KK.out _ _ T6;obtain⟨y0,y1,y2,y3⟩:Nd8 w6 b off y ak1 ck1:=NK1 T6 aA;have HY:=hY w6 o6 (Sy.stepO T6 aA) (X1.step T6 aA) E6;go_wp2_with fail;refine HY.mono ?_;rintro e w7 ⟨rfl,o7,E7,S7⟩;have T7:=T6.trans S7;clear S7 c0 c1 c2 c3 y0 y1 y2 y3 HY hY;obtain⟨c0,c1,c2,c3⟩:=KK.out _ _ T7;go_wp2_with fail;refine(gA w7 o7 E7).mono ?_;rintro e w8 ⟨rfl,o8,E8,S8⟩;have T8:=T7.trans S8;clear S8 c0 c1 c2 c3 gA;obtain⟨c0,c1,c2,c3⟩:=KK.out _ _ T8;go_wp2_with fail;refine(gC w8 o8 E8).mono ?_;rintro e w9 ⟨rfl,o9,E9,S9⟩;have T9:=T8.trans S9;clear S9 c0 c1 c2 c3 gC;obtain⟨c0,c1,c2,c3⟩:=KK.out _ _ T9;go_wp2_with fail;refine(gG w9 o9 E9).mono ?_;rintro e w10 ⟨rfl,o10,E10,S10⟩;have T10:=T9.trans S10;clear S10 c0 c1 c2 c3 gG;obtain⟨c0,c1,c2,c3⟩:=KK.out _ _ T10;go_wp2_with fail;refine(gH w10 o10 E10).mono ?_;rintro e w11 ⟨rfl,o11,E11,S11⟩;have T11:=T10.trans S11;clear S11 c0 c1 c2 c3 gH;obtain⟨c0,c1,c2,c3⟩:=KK.out _ _ T11;go_wp2_with fail;refine(gI w11 o11 E11).mono ?_;rintro e w12 ⟨rfl,o12,E12,S12⟩;have T12:=T11.trans S12;clear S12 c0 c1 c2 c3 gI;obtain⟨c0,c1,c2,c3⟩:=KK.out _ _ T12;go_wp2_with fail;refine(gJ w12 o12 E12).mono ?_;rintro e w13 ⟨rfl,o13,E13,S13⟩;have T13:=T12.trans S13;clear S13 c0 c1 c2 c3 gJ;obtain⟨c0,c1,c2,c3⟩:=KK.out _ _ T13;go_wp2
   go_end0
   exact⟨rfl,o13,E13,S0.trans T13⟩
theorem jK:∀ (f g:Fs),cZ f g=true->kdF f=kdF g
 | ⟨none⟩,⟨none⟩,_=>rfl
 | ⟨none⟩,⟨some ⟨k',n',nm',a',ks',r'⟩⟩,h=>by cases h
 | ⟨some ⟨k,n,nm,a,ks,r⟩⟩,⟨none⟩,h=>by cases h
 | ⟨some ⟨k,n,nm,a,ks,r⟩⟩,⟨some ⟨k',n',nm',a',ks',r'⟩⟩,h=>by
  simp only[cZ,Bool.and_eq_true,beq_iff_eq] at h;obtain⟨⟨⟨⟨h1,h2⟩,h3⟩,h4⟩,h5⟩:=h;simp only[kdF,h1,h2,jK ks ks' h4,jK r r' h5]
theorem uM {x y:Ex}(h:br x y=true):kdE x=kdE y:=by
 unfold br at h;simp only[Bool.and_eq_true,beq_iff_eq] at h;obtain⟨⟨⟨h1,h2⟩,h3⟩,h4⟩:=h;simp only[kdE,h1,h2,jK _ _ h4]
theorem kY (kd:List Int)(i:Nat):wkP kd i≠4:=by
 unfold wkP;cases kd[i]? with
 | none=>simp
 | some v=>simp only;split<;>omega
theorem lz {k n:Int}{kd:List Int}:(aZ k n kd).2=4 ↔ (22<=k/\k<=25):=by
 have h0:=kY kd 0;have h1:=kY kd 1;by_cases hs:22<=k/\k<=25
 ·have hc:k=22\/k=23\/k=24\/k=25:=by omega
  rcases hc with rfl|rfl|rfl|rfl<;>simp[aZ]
 ·refine⟨fun h=>?_,fun h=>absurd h hs⟩;exfalso;unfold aZ at h;generalize wkP kd 0=a at h h0;generalize wkP kd 1=b at h h1;by_cases e1:k=1
  ·rw[if_pos e1] at h;cases h
  rw[if_neg e1] at h;by_cases e2:k=2
  ·rw[if_pos e2] at h;cases h
  rw[if_neg e2] at h;by_cases e3:k=3\/k=5
  ·rw[if_pos e3] at h;cases h
  rw[if_neg e3] at h;by_cases e6:k=6
  ·rw[if_pos e6] at h;cases h
  rw[if_neg e6] at h;by_cases e7:k=7
  ·rw[if_pos e7] at h;cases h
  rw[if_neg e7] at h;by_cases e8:8<=k/\k<=12
  ·rw[if_pos e8] at h;cases h
  rw[if_neg e8] at h;by_cases e15:k=15\/k=16
  ·rw[if_pos e15] at h;cases h
  rw[if_neg e15] at h;by_cases e17:k=17\/k=18
  ·rw[if_pos e17] at h;cases h
  rw[if_neg e17] at h;by_cases e13:k=13\/k=14
  ·rw[if_pos e13] at h;cases h
  rw[if_neg e13] at h;by_cases e19:k=19
  ·rw[if_pos e19] at h;exact h1 h
  rw[if_neg e19] at h;by_cases e20:k=20
  ·rw[if_pos e20] at h;split at h
   ·cases h
   split at h
   ·cases h
   split at h<;>cases h
  rw[if_neg e20] at h;by_cases e21:k=21
  ·rw[if_pos e21] at h;split at h
   ·cases h
   split at h<;>cases h
  rw[if_neg e21] at h;by_cases e26:k=26
  ·rw[if_pos e26] at h;exact h0 h
  rw[if_neg e26,if_neg (by omega),if_neg (by omega),if_neg (by omega)] at h;cases h
theorem uJ {k n:Int}{kd:List Int}(hk:k≠21):∀ v ∈ (aZ k n kd).1,v≠4:=by
 have w0:=kY kd 0;have w1:=kY kd 1;unfold aZ;generalize wkP kd 0=a at w0 ⊢;generalize wkP kd 1=b at w1 ⊢;intro v hv h4;subst h4;by_cases e0:k=1
 ·rw[if_pos e0] at hv;simp at hv
 rw[if_neg e0] at hv;by_cases e1:k=2
 ·rw[if_pos e1] at hv;simp at hv
 rw[if_neg e1] at hv;by_cases e2:k=3\/k=5
 ·rw[if_pos e2] at hv;simp at hv
 rw[if_neg e2] at hv;by_cases e3:k=6
 ·rw[if_pos e3] at hv;simp at hv
 rw[if_neg e3] at hv;by_cases e4:k=7
 ·rw[if_pos e4] at hv;simp at hv
 rw[if_neg e4] at hv;by_cases e5:8<=k/\k<=12
 ·rw[if_pos e5] at hv;simp at hv
 rw[if_neg e5] at hv;by_cases e6:k=15\/k=16
 ·rw[if_pos e6] at hv;simp at hv
 rw[if_neg e6] at hv;by_cases e7:k=17\/k=18
 ·rw[if_pos e7] at hv;simp at hv
 rw[if_neg e7] at hv;by_cases e8:k=13\/k=14
 ·rw[if_pos e8] at hv;simp at hv;omega
 rw[if_neg e8] at hv;by_cases e9:k=19
 ·rw[if_pos e9] at hv;simp at hv;omega
 rw[if_neg e9] at hv;by_cases e20:k=20
 ·rw[if_pos e20] at hv;split at hv
  ·simp at hv
  split at hv
  ·simp at hv
  split at hv<;>simp at hv
 rw[if_neg e20,if_neg hk] at hv;by_cases e26:k=26
 ·rw[if_pos e26] at hv;simp at hv;omega
 rw[if_neg e26] at hv;by_cases e22:k=22\/k=23
 ·rw[if_pos e22] at hv;simp at hv
 rw[if_neg e22] at hv;by_cases e24:k=24
 ·rw[if_pos e24] at hv;simp at hv
 rw[if_neg e24] at hv;by_cases e25:k=25
 ·rw[if_pos e25] at hv;simp at hv
 rw[if_neg e25] at hv;simp at hv
theorem mz {k n:Int}{kd:List Int}(h:(aZ k n kd).1=kd)(h0:(aZ k n kd).2≠0)(j:Nat)(v:Int)(hv:kd[j]?=some v):v=4 ↔ (k=21/\j=0):=by
 rw[<-h] at hv;by_cases hk:k=21
 ·subst hk;unfold aZ at hv;simp at hv;by_cases n1:n=1\/n=2
  ·rw[if_pos n1] at hv;rcases j with _|_|j<;>simp at hv<;>omega
  ·rw[if_neg n1] at hv;by_cases n3:n=3
   ·rw[if_pos n3] at hv;rcases j with _|_|j<;>simp at hv<;>omega
   ·rw[if_neg n3] at hv;rcases j with _|_|j<;>simp at hv<;>omega
 ·have:=uJ hk v (List.mem_of_getElem? hv)
  constructor
  ·intro e;exact absurd e this
  ·intro e;exact absurd e.1 hk
theorem AD {cells:List Int}:∀ (f:Fs) (pk:Int) (i ar wi:Nat) (s s':Rg) (kd:List Int),rgF cells f pk i ar wi s=some (s',kd)->∀ x r,f=Fs.ex x r->∃s2 k rest,rgE cells x (aL pk i ar wi).1 (aL pk i ar wi).2 s=some (s2,k)/\rgF cells r pk (i+1) ar wi s2=some (s',rest)/\kd=k::rest:=by
 intro f pk i ar wi s s' kd h x r hf;subst hf;rw[eG] at h;cases hx:rgE cells x (aL pk i ar wi).1 (aL pk i ar wi).2 s with
 | none=>rw[hx] at h;cases h
 | some z =>
  obtain⟨s2,k⟩:=z;rw[hx] at h;simp only at h;cases hq:rgF cells r pk (i+1) ar wi s2 with
  | none=>rw[hq] at h;cases h
  | some z =>
   obtain⟨s3,rest⟩:=z;rw[hq] at h;injection h with h
   injection h with h1 h2
   subst h1;exact⟨s2,k,rest,rfl,hq,h2.symm⟩
theorem uy {cells:List Int}{n:Int}{ks:Fs}{ar:Nat}{s s':Rg}(h:cT cells n ks ar s=some s'):(s.2 n.toNat=none/\s'.2=fun i=>if i=n.toNat then some ks.head else s.2 i)\/(∃x,s.2 n.toNat=some x/\br x ks.head=true/\s'=s):=by
 unfold cT at h;split at h
 ·cases h
 ·split at h
  ·cases h
  ·split at h
   ·rename_i h1
    injection h with h;subst h
    exact .inl ⟨h1,rfl⟩
   ·rename_i x h1
    split at h
    ·rename_i h2
     injection h with h;subst h
     exact .inr ⟨x,h1,h2,rfl⟩
    ·cases h
structure Kgo (s s':Rg):Prop where
 up:∀ i x,s.2 i=some x->s'.2 i=some x
 pos:(∀ i x,s.2 i=some x->1<=kdE x)->∀ i x,s'.2 i=some x->1<=kdE x
theorem Kgo.refl (s:Rg):Kgo s s:=⟨fun _ _ h=>h,fun h=>h⟩
theorem Kgo.trans {a b c:Rg}(h:Kgo a b)(k:Kgo b c):Kgo a c:=⟨fun i x q=>k.up i x (h.up i x q),fun q=>k.pos (h.pos q)⟩
theorem qJ {cells:List Int}{n:Int}{ks:Fs}{ar:Nat}{s s':Rg}(h:cT cells n ks ar s=some s')(hp:1<=kdE ks.head):Kgo s s'/\∃x,s'.2 n.toNat=some x/\kdE x=kdE ks.head:=by
 rcases uy h with ⟨h1,h2⟩|⟨x,h1,h2,rfl⟩
 ·refine⟨⟨fun i x q=>?_,fun q i x hx=>?_⟩,ks.head,by rw[h2];simp,rfl⟩
  ·rw[h2];simp only;rw[if_neg (by rintro rfl;rw[h1] at q;cases q)];exact q
  ·rw[h2] at hx;simp only at hx;split at hx
   ·injection hx with hx;subst hx;exact hp
   ·exact q i x hx
 ·exact⟨Kgo.refl _,x,h1,uM h2⟩
theorem ua {ks:Fs}(h:ks.len=1):(kdF ks).getD 0 0=kdE ks.head:=by
 obtain⟨v⟩:=ks;cases v with
 | none=>simp[Fs.len] at h
 | some z=>obtain⟨k,n,nm,a,ks,r⟩:=z;simp[kdF,Fs.head,kdE]
theorem tW {nc:Nat}{ks:Fs}(h:ks.len=1)(ho:okF nc ks):okE nc ks.head:=by
 obtain⟨v⟩:=ks;cases v with
 | none=>simp[Fs.len] at h
 | some z=>obtain⟨k,n,nm,a,ks,r⟩:=z;exact⟨ho.1,ho.2.1⟩
theorem BG {n:Int}{nm:List UInt8}{len:Nat}(h:aD 26 n nm len=true):len=1:=by
 unfold aD at h;simp at h;exact h.2
theorem yb (cells:List Int)(nc:Nat):∀ (f:Fs) (pk:Int) (i ar wi:Nat) (s s':Rg) (kd:List Int),okF nc f->rgF cells f pk i ar wi s=some (s',kd) ->
  Kgo s s'/\∀ K:Nat->Int,(∀ i x,s'.2 i=some x->kdE x=K i)->(∀ j v,kd[j]?=some v->(v=4 ↔ (pk=21/\i+j=0)))->skF K f pk i
 | ⟨none⟩,pk,i,ar,wi,s,s',kd,ho,h=>by
  simp only[rgF] at h;injection h with h
  injection h with h1 h2
  subst h1;exact⟨Kgo.refl _,fun _ _ _=>trivial⟩
 | ⟨some ⟨k,n,nm,a,ks,r⟩⟩,pk,i,ar,wi,s,s',kd,ho,h=>by
  obtain⟨s2,k2,rest,hx,hr,rfl⟩:=AD _ pk i ar wi s s' kd h ⟨k,n,nm,a,ks⟩ r rfl;obtain⟨hg,s1,kd1,hk,hl,h0,h1,h2,h3⟩:=dw hx;simp only at hk hl h0 h1 h2 h3;obtain⟨g1,f1⟩:=yb cells nc ks k 0 _ _ _ _ _ ho.2.1 hk;obtain⟨g3,f3⟩:=yb cells nc r pk (i+1) ar wi _ _ _ ho.2.2 hr;have g1':Kgo s s1:=⟨fun i x q=>g1.up i x q,fun q=>g1.pos q⟩
  have g2:Kgo s1 s2/\(k=26->∃x,s2.2 n.toNat=some x/\kdE x=(kdF ks).getD 0 0):=by
   by_cases e:k=26
   ·rw[if_pos e] at h3;subst e;have hl1:=BG ho.1.1;have hp:=(iG (tW hl1 ho.2.1)).1;obtain⟨a1,x,a2,a3⟩:=qJ h3 hp;exact⟨a1,fun _=>⟨x,a2,by rw[a3,ua hl1]⟩⟩
   ·rw[if_neg e] at h3;injection h3 with h3
    subst h3;exact⟨Kgo.refl _,fun h=>absurd h e⟩
  refine⟨(g1'.trans g2.1).trans g3,fun K hK hv=>⟨?_,fun e=>?_,?_,?_⟩⟩
  ·have:=hv 0 k2 rfl
   rw[h2,lz] at this;simpa using this
  ·obtain⟨x,a1,a2⟩:=g2.2 e;rw[<-a2];exact hK _ _ (g3.up _ _ a1)
  ·exact f1 K (fun i x q=>hK i x (g3.up i x (g2.1.up i x q))) (fun j v q=>by have:=mz h1 h0 j v q;simpa using this)
  ·exact f3 K hK (fun j v q=>by have:=hv (j+1) v q;rw[this];omega)
theorem EA {nc:Nat}{cells:List Int}{e:Ex}(h:bO cells e≠0)(ho:okE nc e):∃K:Nat->Int,(∀ i,1<=K i)/\skE K e:=by
 obtain⟨-,-,s,hx,h4⟩:=jQ h;obtain⟨hg,s1,kd,hk,hl,h0,h1,h2,h3⟩:=dw hx;obtain⟨g1,f1⟩:=yb cells nc e.kids e.k 0 _ _ _ _ _ ho.2 hk;have g1':Kgo (0,fun _=>none) s1:=⟨fun i x q=>g1.up i x q,fun q=>g1.pos q⟩
 have g2:Kgo s1 s/\(e.k=26->∃x,s.2 e.n.toNat=some x/\kdE x=(kdF e.kids).getD 0 0):=by
  by_cases ek:e.k=26
  ·rw[if_pos ek] at h3;have hl1:e.kids.len=1:=by
    have:=ho.1.1
    rw[ek] at this;exact BG this
   have hp:=(iG (tW hl1 ho.2)).1;obtain⟨a1,x,a2,a3⟩:=qJ h3 hp;exact⟨a1,fun _=>⟨x,a2,by rw[a3,ua hl1]⟩⟩
  ·rw[if_neg ek] at h3;injection h3 with h3
   subst h3;exact⟨Kgo.refl _,fun h=>absurd h ek⟩
 have hpos:=(g1'.trans g2.1).pos (fun i x q=>by cases q)
 let K:Nat->Int:=fun i=>match s.2 i with|none=>1|some x=>kdE x
 have hK:∀ i x,s.2 i=some x->kdE x=K i:=fun i x q=>by simp only[K];rw[q]
 refine⟨K,fun i=>?_,?_,fun ek=>?_,?_⟩
 ·simp only[K];cases hs:s.2 i with
  | none=>simp
  | some x=>exact hpos i x hs
 ·rw[<-lz (n:=e.n) (kd:=kd),<-h2];exact h4
 ·obtain⟨x,a1,a2⟩:=g2.2 ek;rw[<-a2];exact hK _ _ a1
 ·exact f1 K (fun i x q=>hK i x (g2.1.up i x q)) (fun j v q=>by have:=mz h1 h0 j v q;simpa using this)
end Go.Proofs.YtbjdkekhnajafaaGreatDoor
