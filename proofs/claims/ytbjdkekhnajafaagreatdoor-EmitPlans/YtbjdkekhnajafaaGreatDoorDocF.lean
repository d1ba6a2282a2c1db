import Derived.Test.YtbjdkekhnajafaaGreatDoorEqK
set_option maxRecDepth 100000
set_option maxHeartbeats 8000000
namespace Go.Proofs.YtbjdkekhnajafaaGreatDoor
open Go.ChangeShapes Go.WideShapes Go.ChangeAt Go.RowKit
set_option linter.unusedVariables false
set_option linter.unusedSimpArgs false
theorem Cr (K:Nat->Int)(nc N:Nat)(HP:eu K nc N)(n:Int)(nm:List UInt8)(a:Int)(x:Ex)(ao:Option Addr)(cap ar:Nat)(w:World)(o:Nat->Nat)(rb:Nat)(p0 p1 p2 p3 p4:Value)(lv:List Int)(s:Dp)(m:Nat)(hN:(Fs.ex x .nil).size<=N)(ho:okE nc ⟨26,n,nm,a,(Fs.ex x .nil)⟩)(hsk:skF K (Fs.ex x .nil) 26 0)(hlv:lv.length=nc)(hnc:nc<=256)(har:ar+(Fs.ex x .nil).size<=1000000)(hsz:(Fs.ex x .nil).size<=100000)(S:SnO w o (Fs.ex x .nil) ao)(hks:s.ks.length=nc)(hz:s.sz m)(hm:m+(17*(Fs.ex x .nil).size+16)<=100000000)(X:DX w o p4 lv)(h:DW w o rb p0 p1 p2 p3 p4 s) :
  Calls Tryz.prog 81 #[pt0 rb,exN ⟨26,n,nm,a,(Fs.ex x .nil)⟩ ao cap,.int .i64 (ar:Nat)] w (cH w o rb p0 p1 p2 p3 p4 (rL n.toNat (kdE x) (deE lv x) ar s) (.tuple #[])):=by
 have hok:=ho.2;simp only at hok;have ox:=(aK hok).1;have hn:0<=n/\n<(nc:Int):=ho.1.2.2.1 rfl;obtain⟨n0,hn0⟩:∃n0:Nat,(n0:Int)=n:=⟨n.toNat,by omega⟩
 subst hn0;rw[Int.toNat_natCast];have sx:skE K x:=gS (by omega) hsk;have hkx:=iG ox;simp only[aV,Fs.size] at hN har hsz hm;obtain⟨w1,o1,g,hw1,HG,B1,E1,X1,SN1,S0⟩:=dl #[.int .i64 26,.int .i64 (n0:Nat),stv nm,.slice ao (Fs.ex x .nil).len cap] h X S;have KK:=dm B1;obtain⟨c0,c1,c2,c3⟩:=KK.out _ _ (aa.refl I17 w1 o1);obtain⟨l1,-⟩:=E1.cl;have T1:=aa.refl I17 w1 o1;clear B1 h X S;rw[ah];simp only;obtain⟨b,off,ak,ck,hao,NN,Sx,NK⟩:=dQ (x:=.nil) SN1 0 rfl;subst hao;have hlen:(Fs.ex x .nil).len=1:=rfl;rw[hlen] at hw1 KK c3 ⊢;have HKO:=fun w2 (S2:SnA w2 x.kids ak)=>tQ K nc (N+1) x ak ck w2 (by omega) ox sx S2;rw[ah] at HKO;obtain⟨Cq,hCq⟩:∃Cq,Cq=s.cel n0 (kdE x):=⟨_,rfl⟩
 have dC:=ow s n0 (kdE x);rw[<-hCq] at dC;have zC:=dC.sz m hz;have kC:=dC.ks.trans hks;have hP:=fun wx ox' E=>aS wx ox' rb p0 p1 p2 p3 p4 Cq 17 n0 0 E;have dP:=aq Cq 17 n0 0;have zP:=dP.sz _ zC;have hY:=fun wx ox' S X E=>HP x ak ck ar wx ox' rb p0 p1 p2 p3 p4 lv (Cq.puts 17 n0 0) _ (by omega) ox sx hlv hnc (by omega) (by omega) S (dP.ks.trans kC) zP (by omega) X E;simp only[ah] at hY;have dF:=bQ lv x ar (Cq.puts 17 n0 0);have hgo:rL n0 (kdE x) (deE lv x) ar s=((deE lv x ar (Cq.puts 17 n0 0)).puts 18 n0 0).lands Cq.at1:=by rw[hCq];rfl
 rw[hgo];clear hgo;generalize deE lv x ar (Cq.puts 17 n0 0)=F at *;have hQ:=fun wx ox' E=>aS wx ox' rb p0 p1 p2 p3 p4 F 18 n0 0 E;have lF:(F.puts 18 n0 0).lg=false->Cq.at1<(F.puts 18 n0 0).ws.length:=dO (dF.trans (aq F 18 n0 0));generalize hat:Cq.at1=iC at *;have hR:=fun wx ox' E=>db wx ox' rb p0 p1 p2 p3 p4 (F.puts 18 n0 0) iC lF E;have h7:=E1;obtain⟨wl,vc,vn,vk,vw,q0,q1,q2,q3,q4⟩:=E1;obtain⟨gk,capk,rfl,ogk,-,-,hgl,hck,hfk⟩:=q4.pos (by omega);have hne1:rb≠gk:=fun e=>by have:=q0.2;rw[e,ogk] at this;cases this
 have hn0:n0<s.ks.length:=by omega
 have r7:=(bV q0.1).1.2.2.2.1;have rz:w1.cell? ⟨gk,n0,none⟩=some (.int .i64 (s.ks.getD n0 0)):=by
  rw[hck n0 (by omega)];simp[eiV,hn0,List.getD_eq_getElem?_getD]
 have hnI:(n0:Int)<(s.ks.length:Int):=by omega
 obtain⟨kx,hkk⟩:∃kx,kx=kdE x:=⟨_,rfl⟩
 by_cases h0:s.ks.getD n0 0=0
 ·have hC2:Cq={ s with ks:=s.ks.set n0 kx }:=by rw[hCq,hkk];unfold Dp.cel;rw[if_pos h0]
  rw[h0] at rz;have HS:Hid (∀ w2,Below w1.heap.size w1 w2->DW (w2.setCell ⟨gk,n0,none⟩ (.int .i64 kx)) o1 rb p0 p1 p2 p3 p4 Cq/\aa I17 w1 o1 (w2.setCell ⟨gk,n0,none⟩ (.int .i64 kx)) o1):=fun w2 B=>by
   have x0:=aa.ofBelow (I:=fun _=>False) o1 B;have x1:aa (fun k=>k=5) w1 o1 (w2.setCell ⟨gk,n0,none⟩ (.int .i64 kx)) o1:=(aa.ofBelow o1 B).setCell ⟨gk,n0,none⟩ _ ogk;rw[hC2];refine⟨⟨wl,_,_,_,_,q0.step x1 (by decide),q1.step x1 (by decide),q2.step x1 (by decide),q3.step x1 (by decide),?_⟩,x1.mono (cC (by decide))⟩;have r:=(q4.step x0 id).store n0 (.int .i64 kx);have e2:eiV (s.ks.set n0 kx)=(eiV s.ks).set n0 (.int .i64 kx):=by simp[eiV]
   have e3:(s.ks.set n0 kx).length=s.ks.length:=by simp
   simp only[e2,e3];exact r
  have FZ:Hid (∀ w2,Below w1.heap.size w1 w2->w2.cell? ⟨rb,7,none⟩=some (.slice (some ⟨gk,0,none⟩) s.ks.length capk)/\(∃v,w2.cell? ⟨gk,n0,none⟩=some v)/\w2.frozen? ⟨gk,n0,none⟩=false):=fun w2 B=>by
   refine⟨(B.cell (p:=⟨rb,7,none⟩) q0.lt).trans r7,⟨.int .i64 0,?_⟩,?_⟩
   ·rw[B.cell (p:=⟨gk,n0,none⟩) hgl];exact rz
   ·have e:=B.block gk hgl
    have:=hfk n0
    unfold World.frozen? at this ⊢;rw[e];exact this
  rw[<-hkk] at HKO;have HNK:Hid (∀ w' o',aa I17 w1 o1 w' o'->Nd4 w' b off x ak ck):=fun w' o' T=>NK T aA;clear hCq hC2 q0 q1 q2 q3 q4 hck hfk dC zC kC dP zP dF hat h7 hz hks l1 hn ho hok hsk HP SN1 NN lF wl hkk h0 hlen;go_enter Tryz.func81,Tryz.ntmps81;go_upto_region 1 with fail;rw[<-hw1,<-HG.out];clear hw1;have BD:∀ q,Below w1.heap.size w1 (w1.drewN q):=fun q=>⟨rfl,rfl,rfl,Nat.le_refl _,fun _ _=>rfl⟩
  go_quiet (fail)
  have BD:=BD nq;generalize w1.drewN nq=wd at *;clear c0 c1 c2 c3 r7 rz;obtain⟨c0,c1,c2,c3⟩:=KK.out _ _ (aa.ofBelow (I:=I17) o1 BD);obtain⟨r7,⟨vz2,rz0⟩,rf⟩:=FZ.out wd BD;obtain⟨x0,x1,x2,x3⟩:=HNK.out _ _ (aa.ofBelow (I:=I17) o1 BD);have BD2:=BD.drew;obtain⟨d0,d1,d2,d3⟩:=KK.out _ _ (aa.ofBelow (I:=I17) o1 BD2);obtain⟨u7,⟨uz,ur⟩,uf⟩:=FZ.out wd.drew BD2;obtain⟨y0,y1,y2,y3⟩:=HNK.out _ _ (aa.ofBelow (I:=I17) o1 BD2);have HK:=HKO wd.drew (Sx.all.below BD2);clear HKO;go_upto_region 2 with fail;go_region_held3 (fun wx=>wx.cell? ⟨g,1,none⟩=some (.int .i64 (n0:Nat))/\wx.cell? ⟨g,3,none⟩=some (.slice (some ⟨b,off,none⟩) 1 cap)/\wx.cell? ⟨rb,7,none⟩=some (.slice (some ⟨gk,0,none⟩) s.ks.length capk)/\(wx.cell? ⟨b,off,none⟩=some (.int .i64 x.k)/\wx.cell? ⟨b,off+1,none⟩=some (.int .i64 x.n)/\wx.cell? ⟨b,off+2,none⟩=some (stv x.nm)/\wx.cell? ⟨b,off+3,none⟩=some (.slice ak x.kids.len ck))) (go_keep) (first|(go_at_call 137;refine HK.mono ?_;rintro e w2 ⟨rfl,B2⟩;have BB2:=BD2.trans (B2.mono BD2.size);obtain⟨e0,e1,e2,e3⟩:=KK.out _ _ (aa.ofBelow (I:=I17) o1 BB2);obtain⟨t7,⟨tz,tr⟩,tf⟩:=FZ.out w2 BB2;obtain⟨z0,z1,z2,z3⟩:=HNK.out _ _ (aa.ofBelow (I:=I17) o1 BB2);obtain⟨m0,m1,m2,m3⟩:=KK.out _ _ (HS.out w2 BB2).2;obtain⟨v0,v1,v2,v3⟩:=HNK.out _ _ (HS.out w2 BB2).2;have mr:=(World.cell?_of_block (a:=⟨rb,7,none⟩) (heap_setCell_other w2 ⟨gk,n0,none⟩ rb (.int .i64 kx) hne1)).trans t7))
  all_goals
   obtain⟨E3,T3⟩:=HS.out w2 BB2;clear HS FZ HK HNK c0 c1 c2 c3 r7 rz0 rf x0 x1 x2 x3 d0 d1 d2 d3 u7 ur uf y0 y1 y2 y3 e0 e1 e2 e3 t7 tr tf z0 z1 z2 z3 m0 m1 m2 m3 v0 v1 v2 v3 mr;generalize w2.setCell ⟨gk,n0,none⟩ (.int .i64 kx)=w3 at *;obtain⟨c0,c1,c2,c3⟩:=KK.out _ _ T3;obtain⟨o3,ho3⟩:∃o3,o3=o1:=⟨_,rfl⟩
   rw[<-ho3] at E3;have T3:aa I17 w1 o1 w3 o3:=by rw[ho3];exact T3
   clear ho3;go_wp2_with fail;refine(hP w3 o3 E3).mono ?_;rintro e w4 ⟨rfl,o4,E4,S4⟩;have T4:=T3.trans S4;clear S4 c0 c1 c2 c3 hP;obtain⟨c0,c1,c2,c3⟩:=KK.out _ _ T4;obtain⟨x0,x1,x2,x3⟩:Nd4 w4 b off x ak ck:=NK T4 aA;have HY:=hY w4 o4 (Sx.stepO T4 aA) (X1.step T4 aA) E4;go_wp2_with fail;refine HY.mono ?_;rintro e w5 ⟨rfl,o5,E5,S5⟩;have T5:=T4.trans S5;clear S5 c0 c1 c2 c3 x0 x1 x2 x3 HY hY;obtain⟨c0,c1,c2,c3⟩:=KK.out _ _ T5;go_wp2_with fail;refine(hQ w5 o5 E5).mono ?_;rintro e w6 ⟨rfl,o6,E6,S6⟩;have T6:=T5.trans S6;clear S6 c0 c1 c2 c3 hQ;obtain⟨c0,c1,c2,c3⟩:=KK.out _ _ T6;go_wp2_with fail;refine(hR w6 o6 E6).mono ?_;rintro e w7 ⟨rfl,o7,E7,S7⟩;have T7:=T6.trans S7;clear S7 c0 c1 c2 c3 hR;obtain⟨c0,c1,c2,c3⟩:=KK.out _ _ T7;go_wp2
   go_end0
   exact⟨rfl,o7,E7,S0.trans T7⟩
 ·have hC2:Cq=s:=by rw[hCq];unfold Dp.cel;rw[if_neg h0]
  subst hC2;have hb0:(Cq.ks.getD n0 0==0)=false:=by simpa using h0
  generalize Cq.ks.getD n0 0=z0 at *;have TD:∀ q,aa I17 w1 o1 (w1.drewN q) o1:=fun q=>(aa.refl _ w1 o1).drewN q;have ED:∀ q,DW (w1.drewN q) o1 rb p0 p1 p2 p3 p4 Cq:=fun q=>h7.step ((aa.refl (fun _=>False) w1 o1).drewN q) noF;clear hCq q0 q1 q2 q3 q4 hck dC zC kC dP zP dF hat hz hks l1 hn ho hok hsk HP SN1 NN lF wl hkk hlen HKO h7;go_enter Tryz.func81,Tryz.ntmps81;go_upto_region 1 with fail;rw[<-hw1,<-HG.out];clear hw1
  go_quiet (fail)
  have T3:=TD nq;have E3:=ED nq;clear TD ED;generalize w1.drewN nq=w3 at *;clear c0 c1 c2 c3 r7 rz;obtain⟨c0,c1,c2,c3⟩:=KK.out _ _ T3;obtain⟨o3,ho3⟩:∃o3,o3=o1:=⟨_,rfl⟩
  rw[<-ho3] at E3;have T3:aa I17 w1 o1 w3 o3:=by rw[ho3];exact T3
  clear ho3;go_wp2_with fail;refine(hP w3 o3 E3).mono ?_;rintro e w4 ⟨rfl,o4,E4,S4⟩;have T4:=T3.trans S4;clear S4 c0 c1 c2 c3 hP;obtain⟨c0,c1,c2,c3⟩:=KK.out _ _ T4;obtain⟨x0,x1,x2,x3⟩:Nd4 w4 b off x ak ck:=NK T4 aA;have HY:=hY w4 o4 (Sx.stepO T4 aA) (X1.step T4 aA) E4;go_wp2_with fail;refine HY.mono ?_;rintro e w5 ⟨rfl,o5,E5,S5⟩;have T5:=T4.trans S5;clear S5 c0 c1 c2 c3 x0 x1 x2 x3 HY hY;obtain⟨c0,c1,c2,c3⟩:=KK.out _ _ T5;go_wp2_with fail;refine(hQ w5 o5 E5).mono ?_;rintro e w6 ⟨rfl,o6,E6,S6⟩;have T6:=T5.trans S6;clear S6 c0 c1 c2 c3 hQ;obtain⟨c0,c1,c2,c3⟩:=KK.out _ _ T6;go_wp2_with fail;refine(hR w6 o6 E6).mono ?_;rintro e w7 ⟨rfl,o7,E7,S7⟩;have T7:=T6.trans S7;clear S7 c0 c1 c2 c3 hR;obtain⟨c0,c1,c2,c3⟩:=KK.out _ _ T7;go_wp2
  go_end0
  exact⟨rfl,o7,E7,S0.trans T7⟩
theorem CJ (k n:Int)(nm:List UInt8)(a:Int)(ks:Fs)(ao:Option Addr)(cap ar:Nat)(w:World)(o:Nat->Nat)(rb:Nat)(p0 p1 p2 p3 p4:Value)(lv:List Int)(s:Dp)(m:Nat)(R:Dp)(hk:k=13\/k=14\/k=15\/k=16)(H:∀ wx ox',SnO wx ox' ks ao->DX wx ox' p4 lv->DW wx ox' rb p0 p1 p2 p3 p4 s->Calls Tryz.prog 80 #[pt0 rb,exN ⟨k,n,nm,a,ks⟩ ao cap,.int .i64 (ar:Nat)] wx (cH wx ox' rb p0 p1 p2 p3 p4 R (.tuple #[])))(hlf:s.lg=false)(S:SnO w o ks ao)(X:DX w o p4 lv)(h:DW w o rb p0 p1 p2 p3 p4 s) :
  Calls Tryz.prog 40 #[pt0 rb,exN ⟨k,n,nm,a,ks⟩ ao cap,.int .i64 (ar:Nat)] w (cH w o rb p0 p1 p2 p3 p4 (R) (.tuple #[])):=by
 obtain⟨w1,o1,g,hw1,HG,B1,E1,X1,SN1,S0⟩:=dl #[.int .i64 k,.int .i64 n,stv nm,.slice ao ks.len cap] h X S;have KK:=dm B1;obtain⟨c0,c1,c2,c3⟩:=KK.out _ _ (aa.refl I17 w1 o1);obtain⟨l1,-⟩:=E1.cl;have T1:=aa.refl I17 w1 o1;clear B1 h X S;rw[ah];simp only;rw[hlf] at l1;have H1:=H w1 o1 SN1 X1 E1;rw[ah] at H1;simp only at H1;generalize ks.len=le at *;clear H SN1 X1 E1;rcases hk with rfl|rfl|rfl|rfl
 all_goals
  go_enter Tryz.func40,Tryz.ntmps40;go_upto_region 1 with fail;rw[<-hw1,<-HG.out];clear hw1;go_wp2_with fail;refine H1.mono ?_;rintro e w2 ⟨rfl,o2,E2,S2⟩;have T2:=T1.trans S2;clear S2 c0 c1 c2 c3 H1;obtain⟨c0,c1,c2,c3⟩:=KK.out _ _ T2;go_wp2
  go_end0
  exact⟨rfl,o2,E2,S0.trans T2⟩
theorem BY (k n:Int)(nm:List UInt8)(a:Int)(ks:Fs)(ao:Option Addr)(cap ar:Nat)(w:World)(o:Nat->Nat)(rb:Nat)(p0 p1 p2 p3 p4:Value)(lv:List Int)(s:Dp)(m:Nat)(R:Dp)(hk:k=26)(H:∀ wx ox',SnO wx ox' ks ao->DX wx ox' p4 lv->DW wx ox' rb p0 p1 p2 p3 p4 s->Calls Tryz.prog 81 #[pt0 rb,exN ⟨k,n,nm,a,ks⟩ ao cap,.int .i64 (ar:Nat)] wx (cH wx ox' rb p0 p1 p2 p3 p4 R (.tuple #[])))(hlf:s.lg=false)(S:SnO w o ks ao)(X:DX w o p4 lv)(h:DW w o rb p0 p1 p2 p3 p4 s) :
  Calls Tryz.prog 40 #[pt0 rb,exN ⟨k,n,nm,a,ks⟩ ao cap,.int .i64 (ar:Nat)] w (cH w o rb p0 p1 p2 p3 p4 (R) (.tuple #[])):=by
 obtain⟨w1,o1,g,hw1,HG,B1,E1,X1,SN1,S0⟩:=dl #[.int .i64 k,.int .i64 n,stv nm,.slice ao ks.len cap] h X S;have KK:=dm B1;obtain⟨c0,c1,c2,c3⟩:=KK.out _ _ (aa.refl I17 w1 o1);obtain⟨l1,-⟩:=E1.cl;have T1:=aa.refl I17 w1 o1;clear B1 h X S;rw[ah];simp only;rw[hlf] at l1;have H1:=H w1 o1 SN1 X1 E1;rw[ah] at H1;simp only at H1;generalize ks.len=le at *;clear H SN1 X1 E1;subst hk;go_enter Tryz.func40,Tryz.ntmps40;go_upto_region 1 with fail;rw[<-hw1,<-HG.out];clear hw1;go_wp2_with fail;refine H1.mono ?_;rintro e w2 ⟨rfl,o2,E2,S2⟩;have T2:=T1.trans S2;clear S2 c0 c1 c2 c3 H1;obtain⟨c0,c1,c2,c3⟩:=KK.out _ _ T2;go_wp2
 go_end0
 exact⟨rfl,o2,E2,S0.trans T2⟩
theorem Dz (k n:Int)(nm:List UInt8)(a:Int)(ks:Fs)(ao:Option Addr)(cap ar:Nat)(w:World)(o:Nat->Nat)(rb:Nat)(p0 p1 p2 p3 p4:Value)(lv:List Int)(s:Dp)(m:Nat)(R:Dp)(hk:k=21)(H:∀ wx ox',SnO wx ox' ks ao->DX wx ox' p4 lv->DW wx ox' rb p0 p1 p2 p3 p4 s->Calls Tryz.prog 82 #[pt0 rb,exN ⟨k,n,nm,a,ks⟩ ao cap,.int .i64 (ar:Nat)] wx (cH wx ox' rb p0 p1 p2 p3 p4 R (.tuple #[])))(hlf:s.lg=false)(S:SnO w o ks ao)(X:DX w o p4 lv)(h:DW w o rb p0 p1 p2 p3 p4 s) :
  Calls Tryz.prog 40 #[pt0 rb,exN ⟨k,n,nm,a,ks⟩ ao cap,.int .i64 (ar:Nat)] w (cH w o rb p0 p1 p2 p3 p4 (R) (.tuple #[])):=by
 obtain⟨w1,o1,g,hw1,HG,B1,E1,X1,SN1,S0⟩:=dl #[.int .i64 k,.int .i64 n,stv nm,.slice ao ks.len cap] h X S;have KK:=dm B1;obtain⟨c0,c1,c2,c3⟩:=KK.out _ _ (aa.refl I17 w1 o1);obtain⟨l1,-⟩:=E1.cl;have T1:=aa.refl I17 w1 o1;clear B1 h X S;rw[ah];simp only;rw[hlf] at l1;have H1:=H w1 o1 SN1 X1 E1;rw[ah] at H1;simp only at H1;generalize ks.len=le at *;clear H SN1 X1 E1;subst hk;go_enter Tryz.func40,Tryz.ntmps40;go_upto_region 1 with fail;rw[<-hw1,<-HG.out];clear hw1;go_wp2_with fail;refine H1.mono ?_;rintro e w2 ⟨rfl,o2,E2,S2⟩;have T2:=T1.trans S2;clear S2 c0 c1 c2 c3 H1;obtain⟨c0,c1,c2,c3⟩:=KK.out _ _ T2;go_wp2
 go_end0
 exact⟨rfl,o2,E2,S0.trans T2⟩
theorem Dw (k n:Int)(nm:List UInt8)(a:Int)(ks:Fs)(ao:Option Addr)(cap ar:Nat)(w:World)(o:Nat->Nat)(rb:Nat)(p0 p1 p2 p3 p4:Value)(lv:List Int)(s:Dp)(m:Nat)(R:Dp)(hk:k=17\/k=18\/k=19)(H:∀ wx ox',SnO wx ox' ks ao->DX wx ox' p4 lv->DW wx ox' rb p0 p1 p2 p3 p4 s->Calls Tryz.prog 83 #[pt0 rb,exN ⟨k,n,nm,a,ks⟩ ao cap,.int .i64 (ar:Nat)] wx (cH wx ox' rb p0 p1 p2 p3 p4 R (.tuple #[])))(hlf:s.lg=false)(S:SnO w o ks ao)(X:DX w o p4 lv)(h:DW w o rb p0 p1 p2 p3 p4 s) :
  Calls Tryz.prog 40 #[pt0 rb,exN ⟨k,n,nm,a,ks⟩ ao cap,.int .i64 (ar:Nat)] w (cH w o rb p0 p1 p2 p3 p4 (R) (.tuple #[])):=by
 obtain⟨w1,o1,g,hw1,HG,B1,E1,X1,SN1,S0⟩:=dl #[.int .i64 k,.int .i64 n,stv nm,.slice ao ks.len cap] h X S;have KK:=dm B1;obtain⟨c0,c1,c2,c3⟩:=KK.out _ _ (aa.refl I17 w1 o1);obtain⟨l1,-⟩:=E1.cl;have T1:=aa.refl I17 w1 o1;clear B1 h X S;rw[ah];simp only;rw[hlf] at l1;have H1:=H w1 o1 SN1 X1 E1;rw[ah] at H1;simp only at H1;generalize ks.len=le at *;clear H SN1 X1 E1;rcases hk with rfl|rfl|rfl
 all_goals
  go_enter Tryz.func40,Tryz.ntmps40;go_upto_region 1 with fail;rw[<-hw1,<-HG.out];clear hw1;go_wp2_with fail;refine H1.mono ?_;rintro e w2 ⟨rfl,o2,E2,S2⟩;have T2:=T1.trans S2;clear S2 c0 c1 c2 c3 H1;obtain⟨c0,c1,c2,c3⟩:=KK.out _ _ T2;go_wp2
  go_end0
  exact⟨rfl,o2,E2,S0.trans T2⟩
theorem Aa (k n:Int)(nm:List UInt8)(a:Int)(ks:Fs)(ao:Option Addr)(cap ar:Nat)(w:World)(o:Nat->Nat)(rb:Nat)(p0 p1 p2 p3 p4:Value)(lv:List Int)(s:Dp)(m:Nat)(hlg:s.lg=true)(S:SnO w o ks ao)(X:DX w o p4 lv)(h:DW w o rb p0 p1 p2 p3 p4 s) :
  Calls Tryz.prog 40 #[pt0 rb,exN ⟨k,n,nm,a,ks⟩ ao cap,.int .i64 (ar:Nat)] w (cH w o rb p0 p1 p2 p3 p4 (s) (.tuple #[])):=by
 obtain⟨w1,o1,g,hw1,HG,B1,E1,X1,SN1,S0⟩:=dl #[.int .i64 k,.int .i64 n,stv nm,.slice ao ks.len cap] h X S;have KK:=dm B1;obtain⟨c0,c1,c2,c3⟩:=KK.out _ _ (aa.refl I17 w1 o1);obtain⟨l1,-⟩:=E1.cl;have T1:=aa.refl I17 w1 o1;clear B1 h X S;rw[ah];simp only;rw[hlg] at l1;clear SN1 X1 KK;go_enter Tryz.func40,Tryz.ntmps40;go_upto_region 1 with fail;rw[<-hw1,<-HG.out];clear hw1;go_wp2
 go_end0
 exact⟨rfl,o1,E1,S0.trans T1⟩
theorem rS (K:Nat->Int)(nc N:Nat)(HP:eu K nc N):eu K nc (N+1):=by
 intro e ao cap ar w o rb p0 p1 p2 p3 p4 lv s m hN ho hsk hlv hnc har hsz S hks hz hm X h;by_cases hlg:s.lg=true
 ·rw[xD hsk.1 hlg];exact Aa e.k e.n e.nm e.a e.kids ao cap ar w o rb p0 p1 p2 p3 p4 lv s m hlg S X h
 have hlf:s.lg=false:=by simpa using hlg
 obtain⟨k,n,nm,a,ks⟩:=e;obtain⟨hs1,-,hsf⟩:=hsk;simp only at hN hsf hs1 har hsz hm S;have hN':ks.size<=N:=by omega
 have hdl:=gX ho.1.1;have hdq:=mf ho.1.1;simp only at hdl hdq;have hkk:=dI ho.1.1;simp only at hkk;unfold deE lm
 dsimp only
 rw[if_neg hs1,if_neg hlg];by_cases e1:k=1
 ·rw[if_pos e1];exact yA k n nm a ks ao cap ar w o rb p0 p1 p2 p3 p4 lv s m 1 (.inl ⟨e1,rfl⟩) hlf S hz (by omega) X h
 rw[if_neg e1];by_cases e2:k=2
 ·rw[if_pos e2];exact yA k n nm a ks ao cap ar w o rb p0 p1 p2 p3 p4 lv s m 2 (.inr ⟨e2,rfl⟩) hlf S hz (by omega) X h
 rw[if_neg e2];by_cases e3:k=3
 ·rw[if_pos e3];exact BT k n nm a ks ao cap ar w o rb p0 p1 p2 p3 p4 lv s m e3 hlf S hz (by omega) X h
 rw[if_neg e3];by_cases e5:k=5
 ·rw[if_pos e5];exact Cy k n nm a ks ao cap ar w o rb p0 p1 p2 p3 p4 lv s m e5 (hdl.2.2.2.2.2.1 (.inl e5)) hlf S hz (by omega) X h
 rw[if_neg e5];by_cases e6:6<=k/\k<=12
 ·rw[if_pos e6];exact Dt K nc N HP k n nm a ks ao cap ar w o rb p0 p1 p2 p3 p4 lv s m e6 hN' ho hsf hlv hnc har hsz S hks hz hm X h hlf
 rw[if_neg e6];by_cases e13:13<=k/\k<=16
 ·rw[if_pos e13];exact CJ k n nm a ks ao cap ar w o rb p0 p1 p2 p3 p4 lv s m _ (by omega) (fun wx ox S X E=>CS K nc N HP k n nm a ks ao cap ar wx ox rb p0 p1 p2 p3 p4 lv s m e13 hN' ho hsf hlv hnc har hsz S hks hz hm X E) hlf S X h
 rw[if_neg e13];by_cases e20:k=20
 ·rw[if_pos e20,oY];exact CZ K nc N HP k n nm a ks ao cap ar w o rb p0 p1 p2 p3 p4 lv s m e20 (by have:=hdl.2.2.2.2.1 e20;omega) hN' ho hsf hlv hnc har hsz S hks hz hm X h hlf
 rw[if_neg e20];by_cases e26:k=26
 ·rw[if_pos e26];subst e26;obtain⟨x,rfl⟩:=ju (hdl.2.1 rfl);exact BY 26 n nm a _ ao cap ar w o rb p0 p1 p2 p3 p4 lv s m _ rfl (fun wx ox S X E=>Cr K nc N HP n nm a x ao cap ar wx ox rb p0 p1 p2 p3 p4 lv s m hN' ho hsf hlv hnc har hsz S hks hz hm X E) hlf S X h
 rw[if_neg e26];by_cases e21:k=21
 ·rw[if_pos e21];subst e21;obtain⟨x,y,rfl⟩:=eq (hdl.2.2.2.1 rfl).1;refine Dz 21 n nm a _ ao cap ar w o rb p0 p1 p2 p3 p4 lv s m _ rfl (fun wx ox S X E=>?_) hlf S X h;have hn:=(hdl.2.2.2.1 rfl).2;by_cases n1:n=1
  ·exact Aw K nc N HP n nm a x y ao cap ar wx ox rb p0 p1 p2 p3 p4 lv s m n1 hN' ho hsf hlv hnc har hsz S hks hz hm X E
  by_cases n2:n=2
  ·exact Ap K nc N HP n nm a x y ao cap ar wx ox rb p0 p1 p2 p3 p4 lv s m n2 hN' ho hsf hlv hnc har hsz S hks hz hm X E
  by_cases n3:n=3
  ·exact Au K nc N HP n nm a x y ao cap ar wx ox rb p0 p1 p2 p3 p4 lv s m n3 hN' ho hsf hlv hnc har hsz S hks hz hm X E
  by_cases n4:n=4
  ·exact zY K nc N HP n nm a x y ao cap ar wx ox rb p0 p1 p2 p3 p4 lv s m n4 hN' ho hsf hlv hnc har hsz S hks hz hm X E
  ·exact AE K nc N HP n nm a x y ao cap ar wx ox rb p0 p1 p2 p3 p4 lv s m (by omega) hN' ho hsf hlv hnc har hsz S hks hz hm X E
 rw[if_neg e21];have hk3:k=17\/k=18\/k=19:=by omega
 refine Dw k n nm a _ ao cap ar w o rb p0 p1 p2 p3 p4 lv s m _ hk3 (fun wx ox S X E=>?_) hlf S X h;rcases hk3 with e|e|e
 ·subst e;obtain⟨x,y,rfl⟩:=eq (hdq.2.1 (by omega) (by omega));exact wN K nc N HP n nm a x y ao cap ar wx ox rb p0 p1 p2 p3 p4 lv s m hN' ho hsf hlv hnc har hsz S hks hz hm X E
 ·subst e;obtain⟨x,y,rfl⟩:=eq (hdq.2.1 (by omega) (by omega));exact wT K nc N HP n nm a x y ao cap ar wx ox rb p0 p1 p2 p3 p4 lv s m hN' ho hsf hlv hnc har hsz S hks hz hm X E
 ·subst e;obtain⟨x,y,z,rfl⟩:=gZ (hdl.1 rfl);exact wJ K nc N HP n nm a x y z ao cap ar wx ox rb p0 p1 p2 p3 p4 lv s m hN' ho hsf hlv hnc har hsz S hks hz hm X E
theorem nA (K:Nat->Int)(nc:Nat):∀ N,eu K nc N
 | 0=>fun e ao cap ar w o rb p0 p1 p2 p3 p4 lv s m h=>by omega
 | N+1=>rS K nc N (nA K nc N)
def ir (cells:List Int)(n:Int)(x:Ex)(ar wi:Nat)(s:Rg):Option (Rg × Int) :=
 if 0<=n/\n<(cells.length:Int) then (match cM cells x ar wi s with|none=>none|some (s2,k0)=>anD (cT cells n (Fs.ex x .nil) ar s2) k0) else none
theorem zv {cells:List Int}{i:Nat}{x:Ex}{ar wi:Nat}{s:Rg}{lv:Int}(h:cells[i]?=some lv)(hl:(ar:Int)<lv):ir cells (i:Nat) x ar wi s=none:=by
 unfold ir;split
 ·cases cM cells x ar wi s with
  | none=>rfl
  | some z =>
   obtain⟨s2,k0⟩:=z;simp only[cT,Int.toNat_natCast,h];rw[if_pos (.inl hl)];rfl
 ·rfl
theorem AU {cells:List Int}{i:Nat}{x:Ex}{ar wi:Nat}{s:Rg}{lv:Int}(h:cells[i]?=some lv)(hl:¬(ar:Int)<lv):ir cells (i:Nat) x ar wi s=(match cM cells x ar wi s with|none=>none|some (s2,k0)=>if lv<hgE x ar then none else (match s2.2 i with|none=>some ((s2.1,fun j=>if j=i then some x else s2.2 j),k0)|some y=>if br y x=true then some (s2,k0) else none)):=by
 have hi:i<cells.length:=by
  rcases Nat.lt_or_ge i cells.length with h1|h1
  ·exact h1
  ·rw[List.getElem?_eq_none h1] at h;cases h
 unfold ir;rw[if_pos ⟨by omega,by omega⟩];cases cM cells x ar wi s with
 | none=>rfl
 | some z =>
  obtain⟨s2,k0⟩:=z;have hh:(Fs.ex x .nil).head=x:=rfl;simp only[cT,Int.toNat_natCast,h,hh];by_cases h2:lv<hgE x ar
  ·rw[if_pos (.inr h2),if_pos h2];rfl
  ·rw[if_neg (by rintro (h3|h3);exact hl h3;exact h2 h3),if_neg h2];cases s2.2 i with
   | none=>rfl
   | some y =>
    simp only;split<;>rfl
theorem KT.put {w:World}{wb kb nc:Nat}{t:Nat->Option Ex}(h:KT w (Nf2 wb kb) kb nc t)(i:Nat)(x y:Ex)(ak:Option Addr)(ck:Nat)(hs:br x y=true)(hf:cu y)(S:SlN w (Nf2 wb kb) y.kids ak)(hwb:wb<w.heap.size) :
  KT ((w.alloc (.cells #[.int .i64 y.k,.int .i64 y.n,stv y.nm,.slice ak y.kids.len ck] 34)).setCell ⟨kb,i,none⟩ (.slice (some ⟨w.heap.size,0,none⟩) 1 1)) (Nf2 wb kb) kb nc (fun j=>if j=i then some x else t j):=by
 obtain⟨arr,h1,h2,h3⟩:=h;have hkb:=lt_of_block h1;generalize hob:(Obj.cells #[.int .i64 y.k,.int .i64 y.n,stv y.nm,.slice ak y.kids.len ck] 34 (0,0))=ob;have hk1:(w.alloc ob).heap[kb]?=some (.cells arr 32 (0,0)):=(Below.heap_alloc w ob kb hkb).trans h1;have hb:∀ k,Nf2 wb kb k->k<w.heap.size->((w.alloc ob).setCell ⟨kb,i,none⟩ (.slice (some ⟨w.heap.size,0,none⟩) 1 1)).heap[k]?=w.heap[k]?:=fun k hk hl=>(heap_setCell_other _ _ k _ hk.2).trans (Below.heap_alloc w ob k hl);have hsz:w.heap.size<=((w.alloc ob).setCell ⟨kb,i,none⟩ (.slice (some ⟨w.heap.size,0,none⟩) 1 1)).heap.size:=by simp
 have hnew:((w.alloc ob).setCell ⟨kb,i,none⟩ (.slice (some ⟨w.heap.size,0,none⟩) 1 1)).heap[w.heap.size]?=some ob:=(heap_setCell_other _ _ _ _ (by show w.heap.size≠kb;omega)).trans (heap_alloc_new w ob);refine⟨_,(Blk.set (o:=fun _=>0) (i:=0) ⟨hk1,rfl⟩ i _).1,by simp[h2],fun j hj=>?_⟩;by_cases hji:j=i
 ·subst hji;refine .inr ⟨x,y,w.heap.size,1,by simp,hs,by simp[h2,hj],?_,hf⟩;subst hob;exact .inr ⟨w.heap.size,0,_,rfl,⟨by omega,by omega⟩,by simp,fun m u hu=>by rw[Nat.zero_add,cell_of_row _ _ _ _ _ _ hnew];simpa using hu,FcN.one ck (S.mono hb hsz (fun _ h _=>h))⟩
 ·rcases h3 j hj with ⟨h4,h5⟩|⟨x',y',g,cap,q1,q2,q3,q4,q5⟩
  ·exact .inl ⟨by simp[hji,h4],by rw[Array.getElem?_setIfInBounds_ne (Ne.symm hji)];exact h5⟩
  ·exact .inr ⟨x',y',g,cap,by simp[hji,q1],q2,by rw[Array.getElem?_setIfInBounds_ne (Ne.symm hji)];exact q3,q4.mono hb hsz (fun _ h _=>h),q5⟩
theorem Cu {N:Nat}(IH:i7 N)(k0 n:Int)(nm:List UInt8)(a:Int)(x:Ex)(ao:Option Addr)(cap wb kb:Nat)(bv:Value)(cells:List Int)(ar wi:Nat)(s:Rg)(w:World)(hN:x.kids.size<N)(hfx:cu x)(hwi:wi<=4)(har:ar<=wi)(hne:wb≠kb)(h:WD w wb kb bv cells.length (some s))(hn:Inw w (Nf2 wb kb) bv cells)(S:SlN w (Nf2 wb kb) (Fs.ex x .nil) ao) :
  Calls Tryz.prog 109 #[.pointer (some ⟨wb,0,none⟩),.agg #[.int .i64 k0,.int .i64 n,stv nm,.slice ao 1 cap],.int .i64 (ar:Nat),.int .i64 (wi:Nat)] w (aT w wb kb bv cells.length (ir cells n x ar wi s)):=by
 have B0:Below w.heap.size w (w.alloc (.cells #[.int .i64 k0,.int .i64 n,stv nm,.slice ao 1 cap] 34)):=(Below.refl _ w).alloc (Nat.le_refl _) _;have E0:(w.alloc (.cells #[.int .i64 k0,.int .i64 n,stv nm,.slice ao 1 cap] 34)).heap[w.heap.size]?=some (.cells #[.int .i64 k0,.int .i64 n,stv nm,.slice ao 1 cap] 34):=heap_alloc_new w _;have W0:=h.below B0;have S0:=S.belowP B0;have N0:=hn.below B0;have hwb:=h.lt;have hkb:=h.ltk;clear h S hn;go_enter Tryz.func109,Tryz.ntmps109;go_upto_region 1 with fail;generalize w.alloc (.cells #[.int .i64 k0,.int .i64 n,stv nm,.slice ao 1 cap] 34)=w0 at *;have KK:Kp wb kb w w0:=Kp.ofBelow B0;obtain⟨bx,hbx⟩:∃bx,bx=w.heap.size:=⟨_,rfl⟩
 rw[<-hbx] at E0 ⊢;have hb1:bx≠wb:=by omega
 have hb2:bx≠kb:=by omega
 clear hbx hwb hkb B0;obtain⟨p0,p1,p2,p3,pf⟩:=aI E0;have V0:=W0.1;have hk0:=W0.ltk;obtain⟨q0,q1,q2,q3,qf⟩:=aI V0;have BAD:∀ {w2:World},Below w0.heap.size w0 w2->ir cells n x ar wi s=none->Hid (aT w wb kb bv cells.length (ir cells n x ar wi s) (.returned (.int .i64 0)) (w2.setCell ⟨wb,3,none⟩ (.bool false))):=by
  intro w2 b2 hz;rw[hz];exact⟨⟨0,rfl,fun s k h=>by cases h⟩,⟨by simpa using Nat.lt_of_lt_of_le hk0 b2.size,_,_,(gK ((b2.block _ (lt_of_block V0)).trans V0) (.bool false)).2⟩,(KK.trans (Kp.ofBelow b2)).set _ _ (.inr (.inl rfl))⟩
 have bdr:∀ m,Below w0.heap.size w0 (w0.drewN m):=fun m=>⟨rfl,rfl,rfl,Nat.le_refl _,fun _ _=>rfl⟩;obtain⟨aoc,capc,hbv,hcells⟩:=N0;have N0:Inw w0 (Nf2 wb kb) bv cells:=⟨aoc,capc,hbv,hcells⟩
 subst hbv;by_cases hn0:n<0
 ·have hd:decide (n<0)=true:=decide_eq_true hn0;have HB:=fun m=>BAD (bdr m) (by unfold ir;rw[if_neg (by omega)]);clear BAD bdr S0 W0 hcells N0 KK V0 E0;go_wp2_with fail
  go_quiet (fail)
  have HB:=HB nq;go_wp2;exact bodyPost_ret (v:=.int .i64 0) (by simp[results,Tryz.results109,go_sem]) rfl HB.out
 ·have hd:decide (n<0)=false:=decide_eq_false hn0;obtain⟨i,rfl⟩:∃i:Nat,n=(i:Nat):=⟨n.toNat,by omega⟩
  by_cases hn1:(cells.length:Int)<=(i:Int)
  ·have HB:=fun m=>BAD (bdr m) (by unfold ir;rw[if_neg (by omega)]);clear BAD bdr S0 W0 hcells N0 KK V0 E0;go_wp2_with fail
   go_quiet (fail)
   have HB:=HB nq;go_wp2;exact bodyPost_ret (v:=.int .i64 0) (by simp[results,Tryz.results109,go_sem]) rfl HB.out
  ·have hd1:decide ((cells.length:Int)<=(i:Int))=false:=decide_eq_false hn1;have hil:i<cells.length:=by omega
   have hiI:(i:Int)<(cells.length:Int):=by omega
   obtain⟨lv,hlv⟩:∃lv,cells[i]?=some lv:=⟨_,List.getElem?_eq_getElem hil⟩
   rcases hcells with hcells|⟨cb,coff,rfl,hcp,hcl,hcc⟩
   ·subst hcells;simp at hil
   have ccl:=hcc i lv hlv;clear hcc;by_cases hlt:(ar:Int)<lv
   ·have HB:=fun m=>BAD (bdr m) (zv hlv hlt);clear BAD bdr S0 W0 N0 KK V0 E0;go_wp2_with fail
    go_quiet (fail)
    have HB:=HB nq;go_wp2;exact bodyPost_ret (v:=.int .i64 0) (by simp[results,Tryz.results109,go_sem]) rfl HB.out
   ·have hd2:decide ((ar:Int)<lv)=false:=decide_eq_false hlt;have HC:Hid (ir cells (i:Nat) x ar wi s=_):=AU hlv hlt;clear BAD;go_wp2_with fail
    go_quiet (fail)
    have bd:=bdr nq;clear bdr;have W1:=W0.below bd;have S1:=S0.belowP bd;have N1:=N0.below bd;have E1:=(bd.block _ (lt_of_block E0)).trans E0;have KK1:=KK.trans (Kp.ofBelow bd);have ccl1:=(bd.cell (p:=⟨cb,coff+i,none⟩) hcl).trans ccl;have hcl1:cb<(w0.drewN nq).heap.size:=Nat.lt_of_lt_of_le hcl bd.size;clear p0 p1 p2 p3 pf q0 q1 q2 q3 qf W0 S0 N0 E0 KK V0 bd ccl hcl;generalize w0.drewN nq=w1 at *;obtain⟨p0,p1,p2,p3,pf⟩:=aI E1;obtain⟨gb,off,ak,ck,hao,hgl,hgp,y0,y1,y2,y3,SK⟩:=SlN.kidQ (x:=.nil) (r:=.nil) (ks:=x.kids) (k:=x.k) (n:=x.n) (nm:=x.nm) (a:=x.a) S1;subst hao;have hl0:(Fs.nil).len=0:=rfl;simp only[hl0,Nat.zero_mul,Nat.add_zero] at y0 y1 y2 y3;have c1:=IH x ak ck wb kb _ cells ar wi s w1 hN hfx hwi har hne W1 N1 SK;rw[ah] at c1;go_wp2_with fail;refine c1.mono ?_;rintro z w2 ⟨⟨k',rfl,hk'⟩,W2,K2⟩;have E2:=(K2.block _ (lt_of_block E1) hb1 hb2).trans E1;have S2:=S1.kp K2;have N2:=N1.kp K2;have KK2:=KK1.trans K2;have cc2:=(K2.cell hcl1 hcp.1 hcp.2 _).trans ccl1;have hcl2:=Nat.lt_of_lt_of_le hcl1 K2.size;have y0:=(K2.cell hgl hgp.1 hgp.2 _).trans y0;have y1:=(K2.cell hgl hgp.1 hgp.2 _).trans y1;have y2:=(K2.cell hgl hgp.1 hgp.2 _).trans y2;have y3:=(K2.cell hgl hgp.1 hgp.2 _).trans y3;have hgl2:=Nat.lt_of_lt_of_le hgl K2.size;have SK2:=SK.kp K2;clear c1 p0 p1 p2 p3 pf W1 S1 N1 E1 KK1 ccl1 hcl1 hgl SK K2 S2;obtain⟨p0,p1,p2,p3,pf⟩:=aI E2;cases hr:cM cells x ar wi s with
    | none =>
     have HR:Hid (aT w wb kb (.slice (some ⟨cb,coff,none⟩) cells.length capc) cells.length (ir cells (i:Nat) x ar wi s) (.returned (.int .i64 0)) w2):=by
      rw[HC.out,hr];rw[hr] at W2;exact⟨⟨0,rfl,fun s k h=>by cases h⟩,W2,KK2⟩
     rw[hr] at W2;obtain⟨-,p,kv,V2⟩:=W2;obtain⟨q0,q1,q2,q3,qf⟩:=aI V2;clear hr hk' HC V2 SK2 N2 KK2 E2;go_wp2;exact bodyPost_ret (v:=.int .i64 0) (by simp[results,Tryz.results109,go_sem]) rfl HR.out
    | some z =>
     obtain⟨s2,k⟩:=z;obtain rfl:=hk' s2 k hr;have hnv:x.nv:=by
      unfold cM at hr;cases hx:rgE cells x ar wi s with
      | none=>rw[hx] at hr;cases hr
      | some z=>obtain⟨s',kz⟩:=z;exact xo hx
     rw[hr] at W2;have HC2:Hid (ir cells (i:Nat) x ar wi s=if lv<hgE x ar then none else (match s2.2 i with|none=>some ((s2.1,fun j=>if j=i then some x else s2.2 j),k')|some y=>if br y x=true then some (s2,k') else none)):=by show _=_;rw[HC.out,hr]
     have W2:WD w2 wb kb (.slice (some ⟨cb,coff,none⟩) cells.length capc) cells.length (some s2):=W2;clear hr hk' HC;generalize ir cells (i:Nat) x ar wi s=CR at *;have hk2:=W2.ltk;obtain⟨V2,hs2,KT2⟩:=W2;obtain⟨q0,q1,q2,q3,qf⟩:=aI V2;have hx2:=lt_of_block E2;have hw2:=lt_of_block V2;have bdT:Below w2.heap.size w2 w2.drew:=⟨rfl,rfl,rfl,Nat.le_refl _,fun _ _=>rfl⟩
     have c5:=pi (x.kids.size+1) x ak ck ar w2.drew (by omega) hfx.len hfx.sh hnv (by omega) (by omega) (SK2.all.below bdT);rw[ah] at c5;generalize hgE x ar=hx at *;go_wp2_with fail;go_region_held3 (fun wx=>wx.cell? ⟨bx,1,none⟩=some (.int .i64 (i:Nat))/\wx.cell? ⟨bx,3,none⟩=some (.slice (some ⟨gb,off,none⟩) 1 cap)/\wx.cell? ⟨wb,0,none⟩=some (.slice (some ⟨cb,coff,none⟩) cells.length capc)/\wx.cell? ⟨cb,coff+i,none⟩=some (.int .i64 lv)/\wx.cell? ⟨gb,off,none⟩=some (.int .i64 x.k)/\wx.cell? ⟨gb,off+1,none⟩=some (.int .i64 x.n)/\wx.cell? ⟨gb,off+2,none⟩=some (stv x.nm)/\wx.cell? ⟨gb,off+3,none⟩=some (.slice ak x.kids.len ck))
      (first|exact KA|go_keep)
      (first
       | (go_at_call 173;refine c5.mono ?_;rintro z w3 ⟨rfl,B3⟩;have KA:w3.cell? ⟨bx,1,none⟩=some (.int .i64 (i:Nat))/\w3.cell? ⟨bx,3,none⟩=some (.slice (some ⟨gb,off,none⟩) 1 cap)/\w3.cell? ⟨wb,0,none⟩=some (.slice (some ⟨cb,coff,none⟩) cells.length capc)/\w3.cell? ⟨cb,coff+i,none⟩=some (.int .i64 lv)/\w3.cell? ⟨gb,off,none⟩=some (.int .i64 x.k)/\w3.cell? ⟨gb,off+1,none⟩=some (.int .i64 x.n)/\w3.cell? ⟨gb,off+2,none⟩=some (stv x.nm)/\w3.cell? ⟨gb,off+3,none⟩=some (.slice ak x.kids.len ck):=⟨(B3.cell (p:=⟨bx,1,none⟩) hx2).trans p1,(B3.cell (p:=⟨bx,3,none⟩) hx2).trans p3,(B3.cell (p:=⟨wb,0,none⟩) hw2).trans q0,(B3.cell (p:=⟨cb,coff+i,none⟩) hcl2).trans cc2,(B3.cell (p:=⟨gb,off,none⟩) hgl2).trans y0,(B3.cell (p:=⟨gb,off+1,none⟩) hgl2).trans y1,(B3.cell (p:=⟨gb,off+2,none⟩) hgl2).trans y2,(B3.cell (p:=⟨gb,off+3,none⟩) hgl2).trans y3⟩))
     have B23:Below w2.heap.size w2 w3:=bdT.trans B3;have E3:=(B23.block _ hx2).trans E2;have V3:=(B23.block _ hw2).trans V2;have KT3:=KT2.mono (B23.block _ hk2) (fun i _ hl=>B23.block i hl) B23.size;have KK3:=KK2.trans (Kp.ofBelow B23);have SK3:=SK2.belowP B23;have hk3:=Nat.lt_of_lt_of_le hk2 B23.size;have hgl3:=Nat.lt_of_lt_of_le hgl2 B23.size;obtain⟨-,-,-,-,y0,y1,y2,y3⟩:=KA;clear c5 p0 p1 p2 p3 pf q0 q1 q2 q3 qf E2 V2 KT2 KK2 SK2 hk2 hgl2 hx2 hw2 bdT B3 B23 cc2 hcl2 N2;obtain⟨p0,p1,p2,p3,pf⟩:=aI E3;obtain⟨q0,q1,q2,q3,qf⟩:=aI V3;by_cases hlh:lv<hx
     ·have HR:Hid (aT w wb kb (.slice (some ⟨cb,coff,none⟩) cells.length capc) cells.length CR (.returned (.int .i64 0)) (w3.setCell ⟨wb,3,none⟩ (.bool false))):=by
       rw[HC2.out,if_pos hlh];exact⟨⟨0,rfl,fun s k h=>by cases h⟩,⟨by simpa using hk3,_,_,(gK V3 (.bool false)).2⟩,KK3.set _ _ (.inr (.inl rfl))⟩
      clear HC2 KT3 KK3 SK3 E3 V3;go_wp2;exact bodyPost_ret (v:=.int .i64 0) (by simp[results,Tryz.results109,go_sem]) rfl HR.out
     ·have HC3:Hid (CR=(match s2.2 i with|none=>some ((s2.1,fun j=>if j=i then some x else s2.2 j),k')|some y=>if br y x=true then some (s2,k') else none)):=by show CR=_;rw[HC2.out,if_neg hlh]
      clear HC2;have hx3:=lt_of_block E3;have hw3:=lt_of_block V3;obtain⟨arr,ha1,ha2,ha3⟩:=KT3;have KT3:KT w3 (Nf2 wb kb) kb cells.length s2.2:=⟨arr,ha1,ha2,ha3⟩
      have hcell:=fun (v:Value) (hv:arr[i]?=some v)=>(cell_of_row w3 kb i arr _ _ ha1).trans hv;have PUT:∀ {w4:World} (y:Ex),Below w3.heap.size w3 w4->br y x=true->CR=some ((s2.1,fun j=>if j=i then some y else s2.2 j),k')->Hid (aT w wb kb (.slice (some ⟨cb,coff,none⟩) cells.length capc) cells.length CR (.returned (.int .i64 k')) ((w4.alloc (.cells #[.int .i64 x.k,.int .i64 x.n,stv x.nm,.slice ak x.kids.len ck] 34)).setCell ⟨kb,i,none⟩ (.slice (some ⟨w4.heap.size,0,none⟩) 1 1))):=by
       intro w4 y b4 hsm hcr;rw[hcr];have hk4:=Nat.lt_of_lt_of_le hk3 b4.size;have hw4:=Nat.lt_of_lt_of_le hw3 b4.size;have V4:=(b4.block _ hw3).trans V3;have KT4:=KT3.mono (b4.block _ hk3) (fun i _ hl=>b4.block i hl) b4.size;refine⟨⟨k',rfl,fun s k h=>by injection h with h;injection h⟩,⟨?_,hs2,KT4.put i y x ak ck hsm hfx (SK3.belowP b4) hw4⟩,((KK3.trans (Kp.ofBelow b4)).alloc _).set _ _ (.inr (.inr rfl))⟩;exact(heap_setCell_other _ _ _ _ (by show wb≠kb;exact hne)).trans ((Below.heap_alloc w4 _ wb hw4).trans V4)
      rcases ha3 i hil with ⟨ht,hai⟩|⟨x',y',g,cg,ht,hsm,hai,SY,hfy⟩
      ·have e1:=hcell _ hai;have HP:=fun m=>PUT (w4:=w3.drewN m) x ⟨rfl,rfl,rfl,Nat.le_refl _,fun _ _=>rfl⟩ (sd x) (by rw[HC3.out,ht]);clear PUT HC3 KT3 KK3 SK3 hcell ha3 ht;go_wp2_with fail
       go_quiet (fail)
       have HP:=HP nq;have bd4:Below w3.heap.size w3 (w3.drewN nq):=⟨rfl,rfl,rfl,Nat.le_refl _,fun _ _=>rfl⟩
       have E4:=(bd4.block _ hx3).trans E3;have V4:=(bd4.block _ hw3).trans V3;have Y0:=(bd4.cell (p:=⟨gb,off,none⟩) hgl3).trans y0;have Y1:=(bd4.cell (p:=⟨gb,off+1,none⟩) hgl3).trans y1;have Y2:=(bd4.cell (p:=⟨gb,off+2,none⟩) hgl3).trans y2;have Y3:=(bd4.cell (p:=⟨gb,off+3,none⟩) hgl3).trans y3;have KF:=frozen_of_row (w3.drewN nq) kb i arr _ ((bd4.block _ hk3).trans ha1);have KC:=(bd4.cell (p:=⟨kb,i,none⟩) hk3).trans e1;have hkl4:=Nat.lt_of_lt_of_le hk3 bd4.size;have hgl4:=Nat.lt_of_lt_of_le hgl3 bd4.size;clear p0 p1 p2 p3 pf q0 q1 q2 q3 qf y0 y1 y2 y3 bd4 E3 V3 hai e1 ha1;generalize w3.drewN nq=w4 at *;obtain⟨p0,p1,p2,p3,pf⟩:=aI E4;obtain⟨q0,q1,q2,q3,qf⟩:=aI V4;have hbx4:=lt_of_block E4;have hwb4:=lt_of_block V4;clear E4 V4;have hcw:∀ (g j:Nat),g≠kb->g<w4.heap.size->(((w4.setCell ⟨kb,i,none⟩ (.slice (some ⟨w4.heap.size,0,none⟩) 1 1)).alloc (.cells #[.int .i64 x.k,.int .i64 x.n,stv x.nm,.slice ak x.kids.len ck] 34)).drew).cell? ⟨g,j,none⟩=w4.cell? ⟨g,j,none⟩:=fun g j h1 h2=>World.cell?_of_block (a:=⟨g,j,none⟩) ((Below.heap_alloc (w4.setCell ⟨kb,i,none⟩ (.slice (some ⟨w4.heap.size,0,none⟩) 1 1)) (.cells #[.int .i64 x.k,.int .i64 x.n,stv x.nm,.slice ak x.kids.len ck] 34) g (by simpa using h2)).trans (heap_setCell_other w4 ⟨kb,i,none⟩ g _ h1));have KA5:(((w4.setCell ⟨kb,i,none⟩ (.slice (some ⟨w4.heap.size,0,none⟩) 1 1)).alloc (.cells #[.int .i64 x.k,.int .i64 x.n,stv x.nm,.slice ak x.kids.len ck] 34)).drew).cell? ⟨bx,1,none⟩=some (.int .i64 (i:Nat))/\(((w4.setCell ⟨kb,i,none⟩ (.slice (some ⟨w4.heap.size,0,none⟩) 1 1)).alloc (.cells #[.int .i64 x.k,.int .i64 x.n,stv x.nm,.slice ak x.kids.len ck] 34)).drew).cell? ⟨bx,3,none⟩=some (.slice (some ⟨gb,off,none⟩) 1 cap)/\(((w4.setCell ⟨kb,i,none⟩ (.slice (some ⟨w4.heap.size,0,none⟩) 1 1)).alloc (.cells #[.int .i64 x.k,.int .i64 x.n,stv x.nm,.slice ak x.kids.len ck] 34)).drew).cell? ⟨wb,2,none⟩=some (.slice (some ⟨kb,0,none⟩) cells.length cells.length)/\(((w4.setCell ⟨kb,i,none⟩ (.slice (some ⟨w4.heap.size,0,none⟩) 1 1)).alloc (.cells #[.int .i64 x.k,.int .i64 x.n,stv x.nm,.slice ak x.kids.len ck] 34)).drew).cell? ⟨gb,off,none⟩=some (.int .i64 x.k)/\(((w4.setCell ⟨kb,i,none⟩ (.slice (some ⟨w4.heap.size,0,none⟩) 1 1)).alloc (.cells #[.int .i64 x.k,.int .i64 x.n,stv x.nm,.slice ak x.kids.len ck] 34)).drew).cell? ⟨gb,off+1,none⟩=some (.int .i64 x.n)/\(((w4.setCell ⟨kb,i,none⟩ (.slice (some ⟨w4.heap.size,0,none⟩) 1 1)).alloc (.cells #[.int .i64 x.k,.int .i64 x.n,stv x.nm,.slice ak x.kids.len ck] 34)).drew).cell? ⟨gb,off+2,none⟩=some (stv x.nm)/\(((w4.setCell ⟨kb,i,none⟩ (.slice (some ⟨w4.heap.size,0,none⟩) 1 1)).alloc (.cells #[.int .i64 x.k,.int .i64 x.n,stv x.nm,.slice ak x.kids.len ck] 34)).drew).cell? ⟨gb,off+3,none⟩=some (.slice ak x.kids.len ck):=⟨(hcw _ _ hb2 hbx4).trans p1,(hcw _ _ hb2 hbx4).trans p3,(hcw _ _ hne hwb4).trans q2,(hcw _ _ hgp.2 hgl4).trans Y0,(hcw _ _ hgp.2 hgl4).trans Y1,(hcw _ _ hgp.2 hgl4).trans Y2,(hcw _ _ hgp.2 hgl4).trans Y3⟩
       have HP2:Hid (aT w wb kb (.slice (some ⟨cb,coff,none⟩) cells.length capc) cells.length CR (.returned (.int .i64 k')) (((w4.setCell ⟨kb,i,none⟩ (.slice (some ⟨w4.heap.size,0,none⟩) 1 1)).alloc (.cells #[.int .i64 x.k,.int .i64 x.n,stv x.nm,.slice ak x.kids.len ck] 34)).drew)):=by
        have h5:=HP.out;rw[World.setCell_alloc_past _ _ _ _ hkl4] at h5;exact⟨h5.1,h5.2.1.below ⟨rfl,rfl,rfl,Nat.le_refl _,fun _ _=>rfl⟩,h5.2.2.trans (Kp.ofBelow ⟨rfl,rfl,rfl,Nat.le_refl _,fun _ _=>rfl⟩)⟩
       clear HP hcw;go_wp2_with fail;go_region_held3 (fun wx=>wx.cell? ⟨bx,1,none⟩=some (.int .i64 (i:Nat))/\wx.cell? ⟨bx,3,none⟩=some (.slice (some ⟨gb,off,none⟩) 1 cap)/\wx.cell? ⟨wb,2,none⟩=some (.slice (some ⟨kb,0,none⟩) cells.length cells.length)/\wx.cell? ⟨gb,off,none⟩=some (.int .i64 x.k)/\wx.cell? ⟨gb,off+1,none⟩=some (.int .i64 x.n)/\wx.cell? ⟨gb,off+2,none⟩=some (stv x.nm)/\wx.cell? ⟨gb,off+3,none⟩=some (.slice ak x.kids.len ck)) (first|exact KA5|go_keep) (fail);clear KA5;go_wp2;exact bodyPost_ret (v:=.int .i64 k') (by simp[results,Tryz.results109,go_sem]) rfl HP2.out
      ·have e1:=hcell _ hai;obtain⟨az,cz,hzl,hzp,z0,z1,z2,z3,SZ⟩:∃az,∃cz,g<w3.heap.size/\Nf2 wb kb g/\w3.cell? ⟨g,0,none⟩=some (.int .i64 y'.k)/\w3.cell? ⟨g,1,none⟩=some (.int .i64 y'.n)/\w3.cell? ⟨g,2,none⟩=some (stv y'.nm)/\w3.cell? ⟨g,3,none⟩=some (.slice az y'.kids.len cz)/\SlN w3 (Nf2 wb kb) y'.kids az:=by
        obtain⟨gb',off',az,cz,hao,hgl,hgp,z0,z1,z2,z3,SZ⟩:=SlN.kidQ (x:=.nil) (r:=.nil) (ks:=y'.kids) (k:=y'.k) (n:=y'.n) (nm:=y'.nm) (a:=y'.a) SY;injection hao with hao
        injection hao with h1 h2
        subst h1;subst h2;exact⟨az,cz,hgl,hgp,z0,z1,z2,z3,SZ⟩
       have bdT:Below w3.heap.size w3 w3.drew:=⟨rfl,rfl,rfl,Nat.le_refl _,fun _ _=>rfl⟩
       have c6:=j8 (y'.kids.size+1) y' x az ak cz ck w3.drew (by omega) hfy.len hfy.sh hfx.len hfx.sh (SZ.all.below bdT) (SK3.all.below bdT);rw[ah,ah,yw x hsm] at c6;have HC4:Hid (CR=if br x' x=true then some (s2,k') else none):=by show CR=_;rw[HC3.out,ht]
       have hfun:Hid ((fun j=>if j=i then some x' else s2.2 j)=s2.2):=by
        show _=_;funext j;by_cases hj:j=i
        ·rw[if_pos hj,hj,ht]
        ·rw[if_neg hj]
       obtain⟨sm,hsmm⟩:∃sm,sm=br x' x:=⟨_,rfl⟩
       rw[<-hsmm] at c6;have HSM:Hid (br x' x=sm):=hsmm.symm;clear hsmm HC3 SY SZ hsm ht;have KA0:w3.drew.cell? ⟨bx,1,none⟩=some (.int .i64 (i:Nat))/\w3.drew.cell? ⟨bx,3,none⟩=some (.slice (some ⟨gb,off,none⟩) 1 cap)/\w3.drew.cell? ⟨wb,2,none⟩=some (.slice (some ⟨kb,0,none⟩) cells.length cells.length)/\w3.drew.cell? ⟨kb,i,none⟩=some (.slice (some ⟨g,0,none⟩) 1 cg)/\w3.drew.cell? ⟨g,0,none⟩=some (.int .i64 y'.k)/\w3.drew.cell? ⟨g,1,none⟩=some (.int .i64 y'.n)/\w3.drew.cell? ⟨g,2,none⟩=some (stv y'.nm)/\w3.drew.cell? ⟨g,3,none⟩=some (.slice az y'.kids.len cz)/\w3.drew.cell? ⟨gb,off,none⟩=some (.int .i64 x.k)/\w3.drew.cell? ⟨gb,off+1,none⟩=some (.int .i64 x.n)/\w3.drew.cell? ⟨gb,off+2,none⟩=some (stv x.nm)/\w3.drew.cell? ⟨gb,off+3,none⟩=some (.slice ak x.kids.len ck):=⟨p1,p3,q2,e1,z0,z1,z2,z3,y0,y1,y2,y3⟩
       go_wp2_with fail;go_region_held3 (fun wx=>wx.cell? ⟨bx,1,none⟩=some (.int .i64 (i:Nat))/\wx.cell? ⟨bx,3,none⟩=some (.slice (some ⟨gb,off,none⟩) 1 cap)/\wx.cell? ⟨wb,2,none⟩=some (.slice (some ⟨kb,0,none⟩) cells.length cells.length)/\wx.cell? ⟨kb,i,none⟩=some (.slice (some ⟨g,0,none⟩) 1 cg)/\wx.cell? ⟨g,0,none⟩=some (.int .i64 y'.k)/\wx.cell? ⟨g,1,none⟩=some (.int .i64 y'.n)/\wx.cell? ⟨g,2,none⟩=some (stv y'.nm)/\wx.cell? ⟨g,3,none⟩=some (.slice az y'.kids.len cz)/\wx.cell? ⟨gb,off,none⟩=some (.int .i64 x.k)/\wx.cell? ⟨gb,off+1,none⟩=some (.int .i64 x.n)/\wx.cell? ⟨gb,off+2,none⟩=some (stv x.nm)/\wx.cell? ⟨gb,off+3,none⟩=some (.slice ak x.kids.len ck))
        (first|exact KA|exact KA0|go_keep)
        (first
         | (go_at_call 174;refine c6.mono ?_;rintro z w4 ⟨rfl,B4⟩;have KA:w4.cell? ⟨bx,1,none⟩=some (.int .i64 (i:Nat))/\w4.cell? ⟨bx,3,none⟩=some (.slice (some ⟨gb,off,none⟩) 1 cap)/\w4.cell? ⟨wb,2,none⟩=some (.slice (some ⟨kb,0,none⟩) cells.length cells.length)/\w4.cell? ⟨kb,i,none⟩=some (.slice (some ⟨g,0,none⟩) 1 cg)/\w4.cell? ⟨g,0,none⟩=some (.int .i64 y'.k)/\w4.cell? ⟨g,1,none⟩=some (.int .i64 y'.n)/\w4.cell? ⟨g,2,none⟩=some (stv y'.nm)/\w4.cell? ⟨g,3,none⟩=some (.slice az y'.kids.len cz)/\w4.cell? ⟨gb,off,none⟩=some (.int .i64 x.k)/\w4.cell? ⟨gb,off+1,none⟩=some (.int .i64 x.n)/\w4.cell? ⟨gb,off+2,none⟩=some (stv x.nm)/\w4.cell? ⟨gb,off+3,none⟩=some (.slice ak x.kids.len ck):=⟨(B4.cell (p:=⟨bx,1,none⟩) hx3).trans p1,(B4.cell (p:=⟨bx,3,none⟩) hx3).trans p3,(B4.cell (p:=⟨wb,2,none⟩) hw3).trans q2,(B4.cell (p:=⟨kb,i,none⟩) hk3).trans e1,(B4.cell (p:=⟨g,0,none⟩) hzl).trans z0,(B4.cell (p:=⟨g,1,none⟩) hzl).trans z1,(B4.cell (p:=⟨g,2,none⟩) hzl).trans z2,(B4.cell (p:=⟨g,3,none⟩) hzl).trans z3,(B4.cell (p:=⟨gb,off,none⟩) hgl3).trans y0,(B4.cell (p:=⟨gb,off+1,none⟩) hgl3).trans y1,(B4.cell (p:=⟨gb,off+2,none⟩) hgl3).trans y2,(B4.cell (p:=⟨gb,off+3,none⟩) hgl3).trans y3⟩))
       have bd4:Below w3.heap.size w3 w4:=bdT.trans B4;have E4:=(bd4.block _ hx3).trans E3;have V4:=(bd4.block _ hw3).trans V3;have KF:=frozen_of_row w4 kb i arr _ ((bd4.block _ hk3).trans ha1);obtain⟨-,-,-,KC,-,-,-,-,Y0,Y1,Y2,Y3⟩:=KA;have hkl4:=Nat.lt_of_lt_of_le hk3 bd4.size;have hgl4:=Nat.lt_of_lt_of_le hgl3 bd4.size;have hbx4:=lt_of_block E4;have hwb4:=lt_of_block V4;cases sm with
       | false =>
        have HR:Hid (aT w wb kb (.slice (some ⟨cb,coff,none⟩) cells.length capc) cells.length CR (.returned (.int .i64 0)) (w4.setCell ⟨wb,3,none⟩ (.bool false))):=by
         rw[HC4.out,HSM.out,if_neg (by decide)];exact⟨⟨0,rfl,fun s k h=>by cases h⟩,⟨by simpa using hkl4,_,_,(gK V4 (.bool false)).2⟩,(KK3.trans (Kp.ofBelow bd4)).set _ _ (.inr (.inl rfl))⟩
        clear c6 PUT HC4 HSM hfun KT3 KK3 SK3 p0 p1 p2 p3 pf q0 q1 q2 q3 qf y0 y1 y2 y3 z0 z1 z2 z3 e1 ha1 E3 V3 B4 bd4 bdT hcell ha3;obtain⟨q0,q1,q2,q3,qf⟩:=aI V4;clear E4 V4;go_wp2;exact bodyPost_ret (v:=.int .i64 0) (by simp[results,Tryz.results109,go_sem]) rfl HR.out
       | true =>
        have HP:=PUT x' bd4 HSM.out (by rw[HC4.out,HSM.out,if_pos rfl,hfun.out]);clear c6 PUT HC4 HSM hfun KT3 KK3 SK3 p0 p1 p2 p3 pf q0 q1 q2 q3 qf y0 y1 y2 y3 z0 z1 z2 z3 e1 ha1 E3 V3 B4 bd4 bdT hcell ha3;obtain⟨p0,p1,p2,p3,pf⟩:=aI E4;obtain⟨q0,q1,q2,q3,qf⟩:=aI V4;clear E4 V4;have hcw:∀ (g j:Nat),g≠kb->g<w4.heap.size->(((w4.setCell ⟨kb,i,none⟩ (.slice (some ⟨w4.heap.size,0,none⟩) 1 1)).alloc (.cells #[.int .i64 x.k,.int .i64 x.n,stv x.nm,.slice ak x.kids.len ck] 34)).drew).cell? ⟨g,j,none⟩=w4.cell? ⟨g,j,none⟩:=fun g j h1 h2=>World.cell?_of_block (a:=⟨g,j,none⟩) ((Below.heap_alloc (w4.setCell ⟨kb,i,none⟩ (.slice (some ⟨w4.heap.size,0,none⟩) 1 1)) (.cells #[.int .i64 x.k,.int .i64 x.n,stv x.nm,.slice ak x.kids.len ck] 34) g (by simpa using h2)).trans (heap_setCell_other w4 ⟨kb,i,none⟩ g _ h1));have KA5:(((w4.setCell ⟨kb,i,none⟩ (.slice (some ⟨w4.heap.size,0,none⟩) 1 1)).alloc (.cells #[.int .i64 x.k,.int .i64 x.n,stv x.nm,.slice ak x.kids.len ck] 34)).drew).cell? ⟨bx,1,none⟩=some (.int .i64 (i:Nat))/\(((w4.setCell ⟨kb,i,none⟩ (.slice (some ⟨w4.heap.size,0,none⟩) 1 1)).alloc (.cells #[.int .i64 x.k,.int .i64 x.n,stv x.nm,.slice ak x.kids.len ck] 34)).drew).cell? ⟨bx,3,none⟩=some (.slice (some ⟨gb,off,none⟩) 1 cap)/\(((w4.setCell ⟨kb,i,none⟩ (.slice (some ⟨w4.heap.size,0,none⟩) 1 1)).alloc (.cells #[.int .i64 x.k,.int .i64 x.n,stv x.nm,.slice ak x.kids.len ck] 34)).drew).cell? ⟨wb,2,none⟩=some (.slice (some ⟨kb,0,none⟩) cells.length cells.length)/\(((w4.setCell ⟨kb,i,none⟩ (.slice (some ⟨w4.heap.size,0,none⟩) 1 1)).alloc (.cells #[.int .i64 x.k,.int .i64 x.n,stv x.nm,.slice ak x.kids.len ck] 34)).drew).cell? ⟨gb,off,none⟩=some (.int .i64 x.k)/\(((w4.setCell ⟨kb,i,none⟩ (.slice (some ⟨w4.heap.size,0,none⟩) 1 1)).alloc (.cells #[.int .i64 x.k,.int .i64 x.n,stv x.nm,.slice ak x.kids.len ck] 34)).drew).cell? ⟨gb,off+1,none⟩=some (.int .i64 x.n)/\(((w4.setCell ⟨kb,i,none⟩ (.slice (some ⟨w4.heap.size,0,none⟩) 1 1)).alloc (.cells #[.int .i64 x.k,.int .i64 x.n,stv x.nm,.slice ak x.kids.len ck] 34)).drew).cell? ⟨gb,off+2,none⟩=some (stv x.nm)/\(((w4.setCell ⟨kb,i,none⟩ (.slice (some ⟨w4.heap.size,0,none⟩) 1 1)).alloc (.cells #[.int .i64 x.k,.int .i64 x.n,stv x.nm,.slice ak x.kids.len ck] 34)).drew).cell? ⟨gb,off+3,none⟩=some (.slice ak x.kids.len ck):=⟨(hcw _ _ hb2 hbx4).trans p1,(hcw _ _ hb2 hbx4).trans p3,(hcw _ _ hne hwb4).trans q2,(hcw _ _ hgp.2 hgl4).trans Y0,(hcw _ _ hgp.2 hgl4).trans Y1,(hcw _ _ hgp.2 hgl4).trans Y2,(hcw _ _ hgp.2 hgl4).trans Y3⟩
        have HP2:Hid (aT w wb kb (.slice (some ⟨cb,coff,none⟩) cells.length capc) cells.length CR (.returned (.int .i64 k')) (((w4.setCell ⟨kb,i,none⟩ (.slice (some ⟨w4.heap.size,0,none⟩) 1 1)).alloc (.cells #[.int .i64 x.k,.int .i64 x.n,stv x.nm,.slice ak x.kids.len ck] 34)).drew)):=by
         have h5:=HP.out;rw[World.setCell_alloc_past _ _ _ _ hkl4] at h5;exact⟨h5.1,h5.2.1.below ⟨rfl,rfl,rfl,Nat.le_refl _,fun _ _=>rfl⟩,h5.2.2.trans (Kp.ofBelow ⟨rfl,rfl,rfl,Nat.le_refl _,fun _ _=>rfl⟩)⟩
        clear HP hcw;go_wp2_with fail;go_region_held3 (fun wx=>wx.cell? ⟨bx,1,none⟩=some (.int .i64 (i:Nat))/\wx.cell? ⟨bx,3,none⟩=some (.slice (some ⟨gb,off,none⟩) 1 cap)/\wx.cell? ⟨wb,2,none⟩=some (.slice (some ⟨kb,0,none⟩) cells.length cells.length)/\wx.cell? ⟨gb,off,none⟩=some (.int .i64 x.k)/\wx.cell? ⟨gb,off+1,none⟩=some (.int .i64 x.n)/\wx.cell? ⟨gb,off+2,none⟩=some (stv x.nm)/\wx.cell? ⟨gb,off+3,none⟩=some (.slice ak x.kids.len ck)) (first|exact KA5|go_keep) (fail);clear KA5;go_wp2;exact bodyPost_ret (v:=.int .i64 k') (by simp[results,Tryz.results109,go_sem]) rfl HP2.out
end Go.Proofs.YtbjdkekhnajafaaGreatDoor
