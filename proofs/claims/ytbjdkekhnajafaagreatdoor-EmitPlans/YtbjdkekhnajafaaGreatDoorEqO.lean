import Derived.Test.YtbjdkekhnajafaaGreatDoorEmG
set_option maxRecDepth 100000
set_option maxHeartbeats 8000000
namespace Go.Proofs.YtbjdkekhnajafaaGreatDoor
open Go.ChangeShapes Go.WideShapes Go.ChangeAt Go.RowKit
set_option linter.unusedVariables false
set_option linter.unusedSimpArgs false
structure CxQ (rb gw gn ga gt gb:Nat)(q t b:Ex)(ao:Option Addr)(cap:Nat)(at1:Option Addr)(ct:Nat)(ab:Option Addr)(cb ar u:Nat)(w:World)(o:Nat->Nat):Prop where
 bw:Blk w o 0 gw(.cells #[pt0 rb] 87)
 bn:Blk w o 0 gn(.cells(ed q ao cap) 34)
 ba:Blk w o 0 ga(.cells #[.int .i64(ar:Nat),.int .i64(u:Nat)] 91)
 bt:Blk w o 0 gt(.cells(ed t at1 ct) 34)
 bb:Blk w o 0 gb(.cells(ed b ab cb) 34)
 st:SnO w o t.kids at1
 sb:SnO w o b.kids ab
theorem CxQ.step {I:Nat->Prop}{rb gw gn ga gt gb:Nat}{q t b:Ex}{ao:Option Addr}{cap:Nat}{at1:Option Addr}{ct:Nat}{ab:Option Addr}{cb ar u:Nat}{w w':World}{o o':Nat->Nat}(h:CxQ rb gw gn ga gt gb q t b ao cap at1 ct ab cb ar u w o)(x:aa I w o w' o')(hi:¬I 0):CxQ rb gw gn ga gt gb q t b ao cap at1 ct ab cb ar u w' o' :=
 ⟨h.bw.step x hi,h.bn.step x hi,h.ba.step x hi,h.bt.step x hi,h.bb.step x hi,h.st.stepO x hi,h.sb.stepO x hi⟩
theorem CxQ.keeps (rb gw gn ga gt gb:Nat)(q t b:Ex)(ao:Option Addr)(cap:Nat)(at1:Option Addr)(ct:Nat)(ab:Option Addr)(cb ar u:Nat):mo (CxQ rb gw gn ga gt gb q t b ao cap at1 ct ab cb ar u):=fun h x=>h.step x aA
theorem mq.mono {rb:Nat}{lv:Value}{ls:List Int}{K K':World->(Nat->Nat)->Prop}{F:FuncId}{c:Array Value}{t:Nat->Em->Em}{n:Nat}(h:mq rb lv ls K F c t n)(hk:∀ w o,K' w o->K w o):mq rb lv ls K' F c t n:=fun ag hag w o s X E k=>h ag hag w o s X E (hk w o k)
theorem zo (nc N:Nat)(HP:fq nc N)(n:Int)(nm:List UInt8)(a:Int)(t b:Ex)(ao:Option Addr)(cap ar u:Nat)(w:World)(o:Nat->Nat)(rb:Nat)(lv:Value)(ls:List Int)(s:Em)(hn:1<=n/\n<=6)(hok:okF nc (Fs.ex t (Fs.ex b .nil)))(hN1:t.kids.size<N)(hN2:b.kids.size<N)(hls:ls.length=nc)(hnc:nc<=256)(hu:u+3*(t.kids.size+b.kids.size+3)<=1000000000)(har:ar+(t.kids.size+b.kids.size+3)<=1000000000)(S:SnO w o (Fs.ex t (Fs.ex b .nil)) ao)(hks:s.ks.length=ls.length)
  (hm:s.mes+300*(t.kids.size+b.kids.size+3)<=100000000)(hd:s.dp<=1000000001)(X:EmX w o lv ls)(h:EmW w o rb lv s) :
  Calls Tryz.prog 95 #[pt0 rb,exN⟨21,n,nm,a,Fs.ex t(Fs.ex b .nil)⟩ ao cap,spV ar u] w(ms w o rb lv s(qua ls n(emE ls t)(emE ls b) ar u s)(300*(t.kids.size+b.kids.size+3))):=by
 have hmf:∀ (fn:Fn)(first cap:Array Value)(w:World),(Instr.makeFunc fn first cap).run Tryz.prog w=.ok(.func fn first cap) w:=fun _ _ _ _=>rfl;rw[ah];simp only;obtain⟨g,hg⟩:∃g,g=w.heap.size:=⟨_,rfl⟩
 obtain⟨w1,hw1⟩:∃w1,w1=((w.alloc(.cells #[pt0 rb] 87)).alloc(.cells #[.int .i64 21,.int .i64 n,stv nm,.slice ao(Fs.ex t(Fs.ex b .nil)).len cap] 34)).alloc(.cells #[.int .i64(ar:Nat),.int .i64(u:Nat)] 91):=⟨_,rfl⟩
 obtain⟨z1,z2,z3,z4,z5⟩:=al3 w(.cells #[pt0 rb] 87)(.cells #[.int .i64 21,.int .i64 n,stv nm,.slice ao(Fs.ex t(Fs.ex b .nil)).len cap] 34)(.cells #[.int .i64(ar:Nat),.int .i64(u:Nat)] 91);rw[<-hw1,<-hg] at z1 z2 z3 z4 z5;have s0:∀ {I:Nat->Prop},aa I w o w1(ae w o 0):=fun {I}=>dI o(by rw[<-hg];exact z5);have hnl:∀ j,ae w o 0(g+j)=0:=fun j=>ax(by omega);have SN1:=S.stepO(s0(I:=fun _=>False)) id;have E1:=h.step(s0(I:=fun _=>False)) noF;have X1:=X.step(s0(I:=fun _=>False)) id;have S0:=s0(I:=I17);have b1w:Blk w1(ae w o 0) 0 g(.cells #[pt0 rb] 87):=⟨z1,hnl 0⟩
 have b1n:Blk w1(ae w o 0) 0(g+1)(.cells #[.int .i64 21,.int .i64 n,stv nm,.slice ao(Fs.ex t(Fs.ex b .nil)).len cap] 34):=⟨z2,hnl 1⟩
 have b1a:Blk w1(ae w o 0) 0(g+2)(.cells #[.int .i64(ar:Nat),.int .i64(u:Nat)] 91):=⟨z3,hnl 2⟩
 generalize ae w o 0=o1 at *;have HG:=Lib.hid hg;have hlen:(Fs.ex t(Fs.ex b .nil)).len=2:=rfl;obtain⟨b0,off,ak,ck,rfl,-,Sy,NK⟩:=dX(x:=.nil) SN1 0 rfl;obtain⟨b0',off',ak2,ck2,hbo,-,Sy2,NK2⟩:=dX(x:=one t) SN1 1 rfl;cases hbo;rw[hlen] at hw1 b1n ⊢;obtain⟨⟨n0,n1,n2,n3⟩,-⟩:=ai b1n.1;have CC:∀ wx ox,aa(fun _=>False) w1 o1 wx ox->wx.cell?⟨g+1,3,none⟩=some(.slice(some⟨b0,off,none⟩) 2 cap)/\wx.cell?⟨b0,off,none⟩=some(.int .i64 t.k)/\wx.cell?⟨b0,off+1,none⟩=some(.int .i64 t.n)/\wx.cell?⟨b0,off+2,none⟩=some(stv t.nm)/\wx.cell?⟨b0,off+3,none⟩=some(.slice ak t.kids.len ck)/\wx.cell?⟨b0,off+4,none⟩=some(.int .i64 b.k)/\wx.cell?⟨b0,off+5,none⟩=some(.int .i64 b.n)/\wx.cell?⟨b0,off+6,none⟩=some(stv b.nm)/\wx.cell?⟨b0,off+7,none⟩=some(.slice ak2 b.kids.len ck2):=fun wx ox x=>by
  obtain⟨p0,p1,p2,p3⟩:=NK x id;obtain⟨q0,q1,q2,q3⟩:=NK2 x id;exact⟨(ai(b1n.step x id).1).1.2.2.2,p0,p1,p2,p3,q0,q1,q2,q3⟩
 obtain⟨m3,x0,x1,x2,x3,y0,y1,y2,y3⟩:=CC w1 o1(aa.refl _ _ _);obtain⟨m3',x0',x1',x2',x3',y0',y1',y2',y3'⟩:=CC w1.drew o1((aa.refl _ _ _).drew);have hsz:=z4;clear s0 hnl z1 z2 z3 z4 z5 h X S hg;have HLS:=Lib.hid hls;have HKS:=Lib.hid hks;clear hsz hks hls;go_enter Tryz.func95,Tryz.ntmps95;go_upto_region 1 with fail;rw[<-hw1,<-HG.out];clear hw1;go_cut [6,7](fun v6 v7 wx=>∃gt gb o2,v6=pt0 gt/\v7=pt0 gb/\CxQ rb g(g+1)(g+2) gt gb⟨21,n,nm,a,Fs.ex t(Fs.ex b .nil)⟩ t b(some⟨b0,off,none⟩) cap ak ck ak2 ck2 ar u wx o2/\EmW wx o2 rb lv s/\aa I17 w1 o1 wx o2)
 case first =>
  have HX:Hid(∀ (p q:Obj)(gt gb:Nat),((w1.alloc p).alloc q).drew.heap[gt]?=some(.cells(ed t ak ck) 34)->((w1.alloc p).alloc q).drew.heap[gb]?=some(.cells(ed b ak2 ck2) 34)->w1.heap.size<=gt->w1.heap.size<=gb->∃o2,CxQ rb g(g+1)(g+2) gt gb⟨21,n,nm,a,Fs.ex t(Fs.ex b .nil)⟩ t b(some⟨b0,off,none⟩) cap ak ck ak2 ck2 ar u((w1.alloc p).alloc q).drew o2/\EmW((w1.alloc p).alloc q).drew o2 rb lv s/\aa I17 w1 o1((w1.alloc p).alloc q).drew o2):=fun p q gt gb h1 h2 h3 h4=>by
   have B:=(al2 w1 p q).2.2.2.drew;have x:aa(fun _=>False) w1 o1((w1.alloc p).alloc q).drew(ae w1 o1 0):=dI o1 B;exact⟨ae w1 o1 0,⟨b1w.step x id,b1n.step x id,b1a.step x id,⟨h1,ax h3⟩,⟨h2,ax h4⟩,Sy.stepO x id,Sy2.stepO x id⟩,E1.step x noF,dI o1 B⟩
  have A1:=fun p q=>al2 w1 p q;clear b1w b1n b1a Sy Sy2 NK NK2 CC SN1 E1 X1 HP;go_region_held3(fun wx=>wx.cell?⟨g+1,3,none⟩=some(.slice(some⟨b0,off,none⟩) 2 cap)/\wx.cell?⟨b0,off,none⟩=some(.int .i64 t.k)/\wx.cell?⟨b0,off+1,none⟩=some(.int .i64 t.n)/\wx.cell?⟨b0,off+2,none⟩=some(stv t.nm)/\wx.cell?⟨b0,off+3,none⟩=some(.slice ak t.kids.len ck)/\wx.cell?⟨b0,off+4,none⟩=some(.int .i64 b.k)/\wx.cell?⟨b0,off+5,none⟩=some(.int .i64 b.n)/\wx.cell?⟨b0,off+6,none⟩=some(stv b.nm)/\wx.cell?⟨b0,off+7,none⟩=some(.slice ak2 b.kids.len ck2))(go_keep)(fail)
  ·go_wp2;go_meet;obtain⟨o2,h1,h2,h3⟩:=HX.out _ _ w1.heap.size(w1.heap.size+1)(A1 _ _).1(A1 _ _).2.1(by omega)(by omega);exact⟨_,_,o2,rfl,rfl,h1,h2,h3⟩
  ·go_wp2;go_meet;obtain⟨o2,h1,h2,h3⟩:=HX.out _ _(w1.heap.size+1) w1.heap.size(A1 _ _).2.1(A1 _ _).1(by omega)(by omega);exact⟨_,_,o2,rfl,rfl,h1,h2,h3⟩
 case rest =>
  obtain⟨gt,gb,o2,rfl,rfl,Q2,E2,S2⟩:=hcut;clear m3 m3' x0 x1 x2 x3 y0 y1 y2 y3 x0' x1' x2' x3' y0' y1' y2' y3' CC NK NK2 Sy Sy2 b1n b1w b1a n0 n1 n2 n3;have XC:=X1.step S2 aA;have okt:=(aK hok).1;have okb:=(aK(aK hok).2).1;have HC:=HP t ak ck ar u wc o2 rb lv ls s hN1 okt HLS.out hnc Q2.st HKS.out(by omega)(by omega)(by omega) hd XC E2;rw[ah] at HC;have KK:Hid(∀ w' o',aa I17 wc o2 w' o'->w'.cell?⟨g,0,none⟩=some(pt0 rb)/\(w'.cell?⟨gb,0,none⟩=some(.int .i64 b.k)/\w'.cell?⟨gb,1,none⟩=some(.int .i64 b.n)/\w'.cell?⟨gb,2,none⟩=some(stv b.nm)/\w'.cell?⟨gb,3,none⟩=some(.slice ak2 b.kids.len ck2))/\w'.cell?⟨g+2,0,none⟩=some(.int .i64(ar:Nat))/\w'.cell?⟨g+2,1,none⟩=some(.int .i64(u:Nat))/\w'.cell?⟨g+1,1,none⟩=some(.int .i64 n)):=fun w' o' S=>by
   have Q:=Q2.step S aA;exact⟨bD Q.bw.1,(ai Q.bb.1).1,(aE Q.ba.1).1,(aE Q.ba.1).2,(ai Q.bn.1).1.2.1⟩
  obtain⟨c0,⟨t0,t1,t2,t3⟩,a0,a1,n1⟩:=KK.out _ _(aa.refl I17 wc o2);obtain⟨⟨s0,s1,s2,s3⟩,-⟩:=ai Q2.bt.1;go_upto_region 3 with(first|(go_at_call 46;refine HC.mono ?_;rintro z w3⟨rfl,⟨o3,E3,S3⟩,g3⟩))
  clear c0 t0 t1 t2 t3 a0 a1 n1 s0 s1 s2 s3;obtain⟨c0,⟨t0,t1,t2,t3⟩,a0,a1,n1⟩:=KK.out _ _ S3;by_cases hn1:n=1
  ·subst hn1;have HF:=qH nc N HP b ak2 ck2 15 0 ar u w3 o3 rb lv ls(emE ls t ar u s) okb hN2 HLS.out hnc(by omega)(by omega)(by omega)(by omega)(Q2.step S3 aA).sb(g3.ks.trans HKS.out)(by have:=g3.mes;omega)(g3.dp hd)(XC.step S3 aA) E3;rw[ah] at HF;clear HC HP;go_wp2_with(first|(go_at_call 152;refine HF.mono ?_;rintro z w4⟨rfl,⟨o4,E4,S4⟩,g4⟩))
   go_end0
   exact⟨rfl,⟨o4,by simpa [qua] using E4,((S0.trans S2).trans S3).trans S4⟩,by simpa [qua] using(g3.trans g4).le(by omega)⟩
  by_cases hn2:n=2
  ·subst hn2;have HF:=qH nc N HP b ak2 ck2 14 1 ar u w3 o3 rb lv ls(emE ls t ar u s) okb hN2 HLS.out hnc(by omega)(by omega)(by omega)(by omega)(Q2.step S3 aA).sb(g3.ks.trans HKS.out)(by have:=g3.mes;omega)(g3.dp hd)(XC.step S3 aA) E3;rw[ah] at HF;clear HC HP;go_wp2_with(first|(go_at_call 152;refine HF.mono ?_;rintro z w4⟨rfl,⟨o4,E4,S4⟩,g4⟩))
   go_end0
   exact⟨rfl,⟨o4,by simpa [qua] using E4,((S0.trans S2).trans S3).trans S4⟩,by simpa [qua] using(g3.trans g4).le(by omega)⟩
  by_cases hn3:n=3
  ·subst hn3;have HL:=bY 0 1 ar u w3 o3 rb lv ls(emE ls t ar u s)(by omega)(by omega)(by omega)(g3.dp hd)(by have:=g3.mes;omega)(XC.step S3 aA) E3;go_upto_region 10 with(first|(go_at_call 86;refine HL.mono ?_;rintro z w4⟨rfl,o4,E4,S4⟩))
   have g4:=g3.trans(eF(emE ls t ar u s) 0 1 u(by omega));have S24:=S3.trans S4;have S24d:=S24.trans((aa.refl I17 w4 o4).drew);have HO:=fun w'=>gp ar u 1 w'(by omega)(by omega);have HGt:∀ w5,Below w4.drew.heap.size w4.drew w5->_:=fun w5 B5=>jy nc N HP 154 #[pt0 g,pt0(g+2)](fun g x=>((x.lay 14 g 0).con 1 1(u+1)).lay 6 0 0) 4 _(CxQ.keeps _ _ _ _ _ _ _ _ _ _ _ _ _ _ _ _ _) Db b ak2 ck2 ar(u+1) w5 o4 rb lv ls((DH rb g(g+2) ar u lv ls(by omega)).mono(fun _ _ h=>⟨h.bw,h.ba⟩))((emE ls t ar u s).con 0 1 u) okb hN2 HLS.out hnc(by omega)(by omega)((Q2.step S24d aA).step(aa.ofBelow(I:=fun _=>False) o4 B5) id).sb(g4.ks.trans HKS.out)(by have:=g4.mes;omega)(g4.dp hd)((XC.step S24d aA).below B5)((E4.step((aa.refl(fun _=>False) w4 o4).drew) noF).below B5)((Q2.step S24d aA).step(aa.ofBelow(I:=fun _=>False) o4 B5) id);clear HC HP HL c0 t0 t1 t2 t3 a0 a1 n1;obtain⟨c0,⟨t0,t1,t2,t3⟩,a0,a1,n1⟩:=KK.out _ _ S24;obtain⟨e0,⟨f0,f1,f2,f3⟩,h0,h1,h2⟩:=KK.out _ _ S24d;go_region_held3(fun wx=>wx.cell?⟨g,0,none⟩=some(pt0 rb)/\(wx.cell?⟨gb,0,none⟩=some(.int .i64 b.k)/\wx.cell?⟨gb,1,none⟩=some(.int .i64 b.n)/\wx.cell?⟨gb,2,none⟩=some(stv b.nm)/\wx.cell?⟨gb,3,none⟩=some(.slice ak2 b.kids.len ck2))/\wx.cell?⟨g+2,0,none⟩=some(.int .i64(ar:Nat))/\wx.cell?⟨g+2,1,none⟩=some(.int .i64(u:Nat)))(go_keep)(first|(go_at_call 96;refine(HO _).mono ?_;rintro z w5⟨rfl,B5⟩;have S25:=S24d.trans(aa.ofBelow(I:=I17) o4 B5);obtain⟨e0,⟨f0,f1,f2,f3⟩,h0,h1,h2⟩:=KK.out _ _ S25;have HF:=HGt w5 B5;rw[ah] at HF)|(go_at_call 153;refine HF.mono ?_;rintro z w6⟨rfl,⟨o6,E6,S6⟩,g6⟩;obtain⟨e0,⟨f0,f1,f2,f3⟩,h0,h1,h2⟩:=KK.out _ _(S25.trans S6)))
   all_goals
    go_wp2
    go_end0
    exact⟨rfl,⟨o6,by simpa [qua] using E6,((S0.trans S2).trans S25).trans S6⟩,by simpa [qua] using(g4.trans g6).le(by omega)⟩
  by_cases hn4:n=4
  ·subst hn4;have HL:=bY 0 1 ar u w3 o3 rb lv ls(emE ls t ar u s)(by omega)(by omega)(by omega)(g3.dp hd)(by have:=g3.mes;omega)(XC.step S3 aA) E3;go_upto_region 13 with(first|(go_at_call 86;refine HL.mono ?_;rintro z w4⟨rfl,o4,E4,S4⟩))
   have g4:=g3.trans(eF(emE ls t ar u s) 0 1 u(by omega));have S24:=S3.trans S4;have S24d:=S24.trans((aa.refl I17 w4 o4).drew);have HO:=fun w'=>gp ar u 1 w'(by omega)(by omega);have HGt:∀ w5,Below w4.drew.heap.size w4.drew w5->_:=fun w5 B5=>jy nc N HP 155 #[pt0 g](fun _ x=>x.lay 6 0 0) 4 _(CxQ.keeps _ _ _ _ _ _ _ _ _ _ _ _ _ _ _ _ _) De b ak2 ck2 ar(u+1) w5 o4 rb lv ls((D2 rb g lv ls).mono(fun _ _ h=>h.bw))((emE ls t ar u s).con 0 1 u) okb hN2 HLS.out hnc(by omega)(by omega)((Q2.step S24d aA).step(aa.ofBelow(I:=fun _=>False) o4 B5) id).sb(g4.ks.trans HKS.out)(by have:=g4.mes;omega)(g4.dp hd)((XC.step S24d aA).below B5)((E4.step((aa.refl(fun _=>False) w4 o4).drew) noF).below B5)((Q2.step S24d aA).step(aa.ofBelow(I:=fun _=>False) o4 B5) id);clear HC HP HL c0 t0 t1 t2 t3 a0 a1 n1;obtain⟨c0,⟨t0,t1,t2,t3⟩,a0,a1,n1⟩:=KK.out _ _ S24;obtain⟨e0,⟨f0,f1,f2,f3⟩,h0,h1,h2⟩:=KK.out _ _ S24d;go_region_held3(fun wx=>wx.cell?⟨g,0,none⟩=some(pt0 rb)/\(wx.cell?⟨gb,0,none⟩=some(.int .i64 b.k)/\wx.cell?⟨gb,1,none⟩=some(.int .i64 b.n)/\wx.cell?⟨gb,2,none⟩=some(stv b.nm)/\wx.cell?⟨gb,3,none⟩=some(.slice ak2 b.kids.len ck2))/\wx.cell?⟨g+2,0,none⟩=some(.int .i64(ar:Nat))/\wx.cell?⟨g+2,1,none⟩=some(.int .i64(u:Nat)))(go_keep)(first|(go_at_call 96;refine(HO _).mono ?_;rintro z w5⟨rfl,B5⟩;have S25:=S24d.trans(aa.ofBelow(I:=I17) o4 B5);obtain⟨e0,⟨f0,f1,f2,f3⟩,h0,h1,h2⟩:=KK.out _ _ S25;have HF:=HGt w5 B5;rw[ah] at HF)|(go_at_call 153;refine HF.mono ?_;rintro z w6⟨rfl,⟨o6,E6,S6⟩,g6⟩;obtain⟨e0,⟨f0,f1,f2,f3⟩,h0,h1,h2⟩:=KK.out _ _(S25.trans S6)))
   all_goals
    go_wp2
    go_end0
    exact⟨rfl,⟨o6,by simpa [qua] using E6,((S0.trans S2).trans S25).trans S6⟩,by simpa [qua] using(g4.trans g6).le(by omega)⟩
  have hn56:n=5\/n=6:=by omega
  rcases hn56 with hn5|hn5
  ·subst hn5;have HL:=bY 0 1 ar u w3 o3 rb lv ls(emE ls t ar u s)(by omega)(by omega)(by omega)(g3.dp hd)(by have:=g3.mes;omega)(XC.step S3 aA) E3;go_upto_region 17 with(first|(go_at_call 86;refine HL.mono ?_;rintro z w4⟨rfl,o4,E4,S4⟩))
   have g4:=g3.trans(eF(emE ls t ar u s) 0 1 u(by omega));have S24:=S3.trans S4;have S24d:=S24.trans((aa.refl I17 w4 o4).drew);have HO:=fun w'=>gp ar u 1 w'(by omega)(by omega);have HO2:=fun w'=>gp ar u 2 w'(by omega)(by omega);have HK:∀ w5,Below w4.drew.heap.size w4.drew w5->Calls Tryz.prog 86 #[.pointer(some⟨rb,0,none⟩),.int .i64 0,.int .i64 2,spV ar(u+1)] w5(jU w5 o4 rb lv(((emE ls t ar u s).con 0 1 u).con 0 2(u+1))(.tuple #[])):=fun w5 B5=>bY 0 2 ar(u+1) w5 o4 rb lv ls((emE ls t ar u s).con 0 1 u)(by omega)(by omega)(by omega)(g4.dp hd)(by have:=g4.mes;omega)((XC.step S24d aA).below B5)((E4.step((aa.refl(fun _=>False) w4 o4).drew) noF).below B5);clear HL c0 t0 t1 t2 t3 a0 a1 n1;obtain⟨c0,⟨t0,t1,t2,t3⟩,a0,a1,n1⟩:=KK.out _ _ S24;obtain⟨e0,⟨f0,f1,f2,f3⟩,h0,h1,h2⟩:=KK.out _ _ S24d;go_region_held3(fun wx=>wx.cell?⟨g,0,none⟩=some(pt0 rb)/\wx.cell?⟨g+2,0,none⟩=some(.int .i64(ar:Nat))/\wx.cell?⟨g+2,1,none⟩=some(.int .i64(u:Nat)))(go_keep)(first|(go_at_call 96;refine(HO _).mono ?_;rintro z w5⟨rfl,B5⟩;have S25:=S24d.trans(aa.ofBelow(I:=I17) o4 B5);obtain⟨e0,⟨f0,f1,f2,f3⟩,h0,h1,h2⟩:=KK.out _ _ S25;have HF:=HK w5 B5)|(go_at_call 86;refine HF.mono ?_;rintro z w6⟨rfl,o6,E6,S6⟩;obtain⟨e0,⟨f0,f1,f2,f3⟩,h0,h1,h2⟩:=KK.out _ _(S25.trans S6)))
   all_goals
    have S26:=S25.trans S6;have S26d:=S26.trans((aa.refl I17 w6 o6).drew);have g6:=g4.trans(eF((emE ls t ar u s).con 0 1 u) 0 2(u+1)(by omega));have HGt:∀ w7,Below w6.drew.heap.size w6.drew w7->_:=fun w7 B7=>jy nc N HP 156 #[pt0 g,pt0(g+1)](fun _ x=>x.lay 26(5-5:Int).toNat 0) 4 _(CxQ.keeps _ _ _ _ _ _ _ _ _ _ _ _ _ _ _ _ _) xw b ak2 ck2 ar(u+2) w7 o6 rb lv ls((BJ rb g(g+1)⟨21,5,nm,a,Fs.ex t(Fs.ex b .nil)⟩(some⟨b0,off,none⟩) cap lv ls(by simp)).mono(fun _ _ h=>⟨h.bw,h.bn⟩))(((emE ls t ar u s).con 0 1 u).con 0 2(u+1)) okb hN2 HLS.out hnc(by omega)(by omega)((Q2.step S26d aA).step(aa.ofBelow(I:=fun _=>False) o6 B7) id).sb(g6.ks.trans HKS.out)(by have:=g6.mes;omega)(g6.dp hd)((XC.step S26d aA).below B7)((E6.step((aa.refl(fun _=>False) w6 o6).drew) noF).below B7)((Q2.step S26d aA).step(aa.ofBelow(I:=fun _=>False) o6 B7) id);clear HK HF HO c0 t0 t1 t2 t3 a0 a1 n1 e0 f0 f1 f2 f3 h0 h1 h2;obtain⟨c0,⟨t0,t1,t2,t3⟩,a0,a1,n1⟩:=KK.out _ _ S26;obtain⟨e0,⟨f0,f1,f2,f3⟩,h0,h1,h2⟩:=KK.out _ _ S26d;go_upto_region 18 with fail;go_region_held3(fun wx=>wx.cell?⟨g,0,none⟩=some(pt0 rb)/\(wx.cell?⟨gb,0,none⟩=some(.int .i64 b.k)/\wx.cell?⟨gb,1,none⟩=some(.int .i64 b.n)/\wx.cell?⟨gb,2,none⟩=some(stv b.nm)/\wx.cell?⟨gb,3,none⟩=some(.slice ak2 b.kids.len ck2))/\wx.cell?⟨g+2,0,none⟩=some(.int .i64(ar:Nat))/\wx.cell?⟨g+2,1,none⟩=some(.int .i64(u:Nat)))(go_keep)(first|(go_at_call 96;refine(HO2 _).mono ?_;rintro z w7⟨rfl,B7⟩;have S27:=S26d.trans(aa.ofBelow(I:=I17) o6 B7);obtain⟨e0,⟨f0,f1,f2,f3⟩,h0,h1,h2⟩:=KK.out _ _ S27;have HF:=HGt w7 B7;rw[ah] at HF)|(go_at_call 153;refine HF.mono ?_;rintro z w8⟨rfl,⟨o8,E8,S8⟩,g8⟩;obtain⟨e0,⟨f0,f1,f2,f3⟩,h0,h1,h2⟩:=KK.out _ _(S27.trans S8)))
    all_goals
     have S28:=S27.trans S8;have g18:=g6.trans g8;have HL:=bW 27 0 0 w8 o8 rb lv ls(mN ls(emE ls b)(fun _ x=>x.lay 26(5-5:Int).toNat 0) ar(u+2)(((emE ls t ar u s).con 0 1 u).con 0 2(u+1)))(by omega)(by omega)(by omega)(by have:=g18.mes;omega)(XC.step S28 aA) E8;clear HGt HF HO2;go_wp2_with(first|(go_at_call 47;refine HL.mono ?_;rintro z w9⟨rfl,o9,E9,S9⟩))
     go_end0
     exact⟨rfl,⟨o9,by simpa [qua] using E9,((S0.trans S2).trans S28).trans S9⟩,by simpa [qua] using(g18.trans(bE _ 27 0 0)).le(by omega)⟩
  ·subst hn5;have HL:=bY 0 1 ar u w3 o3 rb lv ls(emE ls t ar u s)(by omega)(by omega)(by omega)(g3.dp hd)(by have:=g3.mes;omega)(XC.step S3 aA) E3;go_upto_region 17 with(first|(go_at_call 86;refine HL.mono ?_;rintro z w4⟨rfl,o4,E4,S4⟩))
   have g4:=g3.trans(eF(emE ls t ar u s) 0 1 u(by omega));have S24:=S3.trans S4;have S24d:=S24.trans((aa.refl I17 w4 o4).drew);have HO:=fun w'=>gp ar u 1 w'(by omega)(by omega);have HO2:=fun w'=>gp ar u 2 w'(by omega)(by omega);have HK:∀ w5,Below w4.drew.heap.size w4.drew w5->Calls Tryz.prog 86 #[.pointer(some⟨rb,0,none⟩),.int .i64 0,.int .i64 2,spV ar(u+1)] w5(jU w5 o4 rb lv(((emE ls t ar u s).con 0 1 u).con 0 2(u+1))(.tuple #[])):=fun w5 B5=>bY 0 2 ar(u+1) w5 o4 rb lv ls((emE ls t ar u s).con 0 1 u)(by omega)(by omega)(by omega)(g4.dp hd)(by have:=g4.mes;omega)((XC.step S24d aA).below B5)((E4.step((aa.refl(fun _=>False) w4 o4).drew) noF).below B5);clear HL c0 t0 t1 t2 t3 a0 a1 n1;obtain⟨c0,⟨t0,t1,t2,t3⟩,a0,a1,n1⟩:=KK.out _ _ S24;obtain⟨e0,⟨f0,f1,f2,f3⟩,h0,h1,h2⟩:=KK.out _ _ S24d;go_region_held3(fun wx=>wx.cell?⟨g,0,none⟩=some(pt0 rb)/\wx.cell?⟨g+2,0,none⟩=some(.int .i64(ar:Nat))/\wx.cell?⟨g+2,1,none⟩=some(.int .i64(u:Nat)))(go_keep)(first|(go_at_call 96;refine(HO _).mono ?_;rintro z w5⟨rfl,B5⟩;have S25:=S24d.trans(aa.ofBelow(I:=I17) o4 B5);obtain⟨e0,⟨f0,f1,f2,f3⟩,h0,h1,h2⟩:=KK.out _ _ S25;have HF:=HK w5 B5)|(go_at_call 86;refine HF.mono ?_;rintro z w6⟨rfl,o6,E6,S6⟩;obtain⟨e0,⟨f0,f1,f2,f3⟩,h0,h1,h2⟩:=KK.out _ _(S25.trans S6)))
   all_goals
    have S26:=S25.trans S6;have S26d:=S26.trans((aa.refl I17 w6 o6).drew);have g6:=g4.trans(eF((emE ls t ar u s).con 0 1 u) 0 2(u+1)(by omega));have HGt:∀ w7,Below w6.drew.heap.size w6.drew w7->_:=fun w7 B7=>jy nc N HP 156 #[pt0 g,pt0(g+1)](fun _ x=>x.lay 26(6-5:Int).toNat 0) 4 _(CxQ.keeps _ _ _ _ _ _ _ _ _ _ _ _ _ _ _ _ _) xw b ak2 ck2 ar(u+2) w7 o6 rb lv ls((BJ rb g(g+1)⟨21,6,nm,a,Fs.ex t(Fs.ex b .nil)⟩(some⟨b0,off,none⟩) cap lv ls(by simp)).mono(fun _ _ h=>⟨h.bw,h.bn⟩))(((emE ls t ar u s).con 0 1 u).con 0 2(u+1)) okb hN2 HLS.out hnc(by omega)(by omega)((Q2.step S26d aA).step(aa.ofBelow(I:=fun _=>False) o6 B7) id).sb(g6.ks.trans HKS.out)(by have:=g6.mes;omega)(g6.dp hd)((XC.step S26d aA).below B7)((E6.step((aa.refl(fun _=>False) w6 o6).drew) noF).below B7)((Q2.step S26d aA).step(aa.ofBelow(I:=fun _=>False) o6 B7) id);clear HK HF HO c0 t0 t1 t2 t3 a0 a1 n1 e0 f0 f1 f2 f3 h0 h1 h2;obtain⟨c0,⟨t0,t1,t2,t3⟩,a0,a1,n1⟩:=KK.out _ _ S26;obtain⟨e0,⟨f0,f1,f2,f3⟩,h0,h1,h2⟩:=KK.out _ _ S26d;go_upto_region 18 with fail;go_region_held3(fun wx=>wx.cell?⟨g,0,none⟩=some(pt0 rb)/\(wx.cell?⟨gb,0,none⟩=some(.int .i64 b.k)/\wx.cell?⟨gb,1,none⟩=some(.int .i64 b.n)/\wx.cell?⟨gb,2,none⟩=some(stv b.nm)/\wx.cell?⟨gb,3,none⟩=some(.slice ak2 b.kids.len ck2))/\wx.cell?⟨g+2,0,none⟩=some(.int .i64(ar:Nat))/\wx.cell?⟨g+2,1,none⟩=some(.int .i64(u:Nat)))(go_keep)(first|(go_at_call 96;refine(HO2 _).mono ?_;rintro z w7⟨rfl,B7⟩;have S27:=S26d.trans(aa.ofBelow(I:=I17) o6 B7);obtain⟨e0,⟨f0,f1,f2,f3⟩,h0,h1,h2⟩:=KK.out _ _ S27;have HF:=HGt w7 B7;rw[ah] at HF)|(go_at_call 153;refine HF.mono ?_;rintro z w8⟨rfl,⟨o8,E8,S8⟩,g8⟩;obtain⟨e0,⟨f0,f1,f2,f3⟩,h0,h1,h2⟩:=KK.out _ _(S27.trans S8)))
    all_goals
     have S28:=S27.trans S8;have g18:=g6.trans g8;have HL:=bW 27 0 0 w8 o8 rb lv ls(mN ls(emE ls b)(fun _ x=>x.lay 26(6-5:Int).toNat 0) ar(u+2)(((emE ls t ar u s).con 0 1 u).con 0 2(u+1)))(by omega)(by omega)(by omega)(by have:=g18.mes;omega)(XC.step S28 aA) E8;clear HGt HF HO2;go_wp2_with(first|(go_at_call 47;refine HL.mono ?_;rintro z w9⟨rfl,o9,E9,S9⟩))
     go_end0
     exact⟨rfl,⟨o9,by simpa [qua] using E9,((S0.trans S2).trans S28).trans S9⟩,by simpa [qua] using(g18.trans(bE _ 27 0 0)).le(by omega)⟩
theorem Cw:Ent 92:=fun _ _=>by kernel_rfl
theorem Cc:Ent 93:=fun _ _=>by kernel_rfl
theorem sY (s:Em)(op a b u:Nat)(hu:u<=1000000000):Grw s (s.push op a b u) 1:=⟨by rw[Em.mes_push];omega,by simp[Em.push],rfl,fun h=>by show max s.dp (u+1)<=_;omega⟩
theorem DL (s:Em)(n:Int):Grw s (s.kc n) 1:=⟨s.mes_kc n,Nat.le_refl _,rfl,id⟩
theorem wS {k n:Int}{nm:List UInt8}{len:Nat}(h:aD k n nm len=true):nm.length<=12:=by
 have hk:=dK h;unfold aD at h;rcases hk with rfl|rfl|rfl|rfl|rfl|rfl|rfl|rfl|rfl|rfl|rfl|rfl|rfl|rfl|rfl|rfl|rfl|rfl|rfl|rfl|rfl|rfl|rfl|rfl|rfl
 all_goals first
 | (simp at h;have h2:nm=[]:=(by first|exact h.1|exact h.2.1|exact h.2.2.1|exact h.2|exact h);rw[h2];simp;done)
 | (
  simp at h;have h2:=h.2.2;unfold aX at h2;split at h2
  ·cases h2
  ·simp only[Bool.and_eq_true,decide_eq_true_eq] at h2;simp;omega)
theorem ol:∀ (d:Fs) (y:Ex) (r:Fs),d.app (Fs.ex y r)=(d.snoc y).app r
 | ⟨none⟩,y,r=>rfl
 | ⟨some⟨k,n,nm,a,ks,t⟩⟩,y,r=>by
  have h:=ol t y r;simp only[Fs.app,Fs.snoc] at h ⊢;rw[h]
theorem ou {nc:Nat}:∀ {d r:Fs},okF nc (d.app r)->okF nc r
 | ⟨none⟩,r,h=>h
 | ⟨some⟨k,n,nm,a,ks,t⟩⟩,r,h=>ou(d:=t) h.2.2
theorem eX:∀ (f:Fs),f.len<=f.size
 | ⟨none⟩=>Nat.le_refl _
 | ⟨some⟨k,n,nm,a,ks,r⟩⟩=>by have:=eX r;simp only[Fs.len,Fs.size];omega
abbrev Bx (w:World)(g rb:Nat)(k n:Int)(nm:List UInt8)(sl:Value)(ar u:Nat):Prop:=w.cell? ⟨g,0,none⟩=some (pt0 rb)/\(w.cell? ⟨g+1,0,none⟩=some (.int .i64 k)/\w.cell? ⟨g+1,1,none⟩=some (.int .i64 n)/\w.cell? ⟨g+1,2,none⟩=some (stv nm)/\w.cell? ⟨g+1,3,none⟩=some sl)/\w.cell? ⟨g+2,0,none⟩=some (.int .i64 (ar:Nat))/\w.cell? ⟨g+2,1,none⟩=some (.int .i64 (u:Nat))
theorem rK (nc N:Nat)(ih:fq nc N):fq nc (N+1):=by
 intro e ao cap ar u w o rb lv ls s hN hoe hls hnc S hks hm hu har hd X h;obtain⟨k,n,nm,a,ks⟩:=e;have hok:=hoe.2;have hdl:=gZ hoe.1.1;simp only at hN hok hdl S hm hu har;rw[ah];simp only;by_cases h1:k=1
 ·subst h1;have hv:emE ls⟨1,n,nm,a,ks⟩ ar u s=s.con n 1 u:=by simp[emE,prt]
  rw[hv];have hke:kdE⟨1,n,nm,a,ks⟩=1:=by simp[kdE,kdN]
  obtain⟨g,hg⟩:∃g,g=w.heap.size:=⟨_,rfl⟩
  obtain⟨w1,hw1⟩:∃w1,w1=((w.alloc(.cells #[pt0 rb] 87)).alloc(.cells #[.int .i64 1,.int .i64 n,stv nm,.slice ao ks.len cap] 34)).alloc(.cells #[.int .i64(ar:Nat),.int .i64(u:Nat)] 91):=⟨_,rfl⟩
  obtain⟨z1,z2,z3,z4,z5⟩:=al3 w(.cells #[pt0 rb] 87)(.cells #[.int .i64 1,.int .i64 n,stv nm,.slice ao ks.len cap] 34)(.cells #[.int .i64(ar:Nat),.int .i64(u:Nat)] 91);rw[<-hw1,<-hg] at z1 z2 z3 z4 z5;have s0:∀ {I:Nat->Prop},aa I w o w1(ae w o 0):=fun {I}=>dI o(by rw[<-hg];exact z5);have hnl:∀ j,ae w o 0(g+j)=0:=fun j=>ax(by omega);have SN1:=S.stepO(s0(I:=fun _=>False)) id;have E1:=h.step(s0(I:=fun _=>False)) noF;have X1:=X.step(s0(I:=fun _=>False)) id;have S0:=s0(I:=I17);have b1w:Blk w1(ae w o 0) 0 g(.cells #[pt0 rb] 87):=⟨z1,hnl 0⟩
  have b1n:Blk w1(ae w o 0) 0(g+1)(.cells #[.int .i64 1,.int .i64 n,stv nm,.slice ao ks.len cap] 34):=⟨z2,hnl 1⟩
  have b1a:Blk w1(ae w o 0) 0(g+2)(.cells #[.int .i64(ar:Nat),.int .i64(u:Nat)] 91):=⟨z3,hnl 2⟩
  generalize ae w o 0=o1 at *;have HG:=Lib.hid hg;have KK:Hid(∀ w' o',aa I17 w1 o1 w' o'->Bx w' g rb 1 n nm(.slice ao ks.len cap) ar u):=fun w' o' S=>⟨bD(b1w.step S aA).1,(ai(b1n.step S aA).1).1,(aE(b1a.step S aA).1).1,(aE(b1a.step S aA).1).2⟩;obtain⟨c0,⟨m0,m1,m2,m3⟩,a0,a1⟩:=KK.out _ _(aa.refl I17 w1 o1);obtain⟨d0,⟨f0,f1,f2,f3⟩,e0,e1⟩:=KK.out _ _((aa.refl I17 w1 o1).drew);have SD:aa I17 w1 o1 w1.drew o1:=(aa.refl _ w1 o1).drew;have dF:aa(fun _=>False) w1 o1 w1.drew o1:=(aa.refl _ w1 o1).drew;have HKS:=Lib.hid hks;have HLS:=Lib.hid hls;clear s0 hnl z1 z2 z3 z4 z5 h X S hg hks hls hdl;have HK:=gN nc(ks.size+1)⟨1,n,nm,a,ks⟩ ao cap w1.drew(by show ks.size < _;omega) hoe(SN1.stepO dF id).all;rw[ah,hke] at HK;simp only at HK;have HC:∀ w2,Below w1.drew.heap.size w1.drew w2->Calls Tryz.prog 86 #[.pointer(some⟨rb,0,none⟩),.int .i64 n,.int .i64 1,spV ar u] w2(jU w2 o1 rb lv(s.con n 1 u)(.tuple #[])):=fun w2 B=>bY n 1 ar u w2 o1 rb lv ls s hoe.1.2.2.2(by omega)(by omega) hd(by omega)((X1.step dF id).below B)((E1.step dF noF).below B);clear hv hke b1w b1n b1a SN1 E1 hok;go_enter Tryz.func46,Tryz.ntmps46;go_upto_region 1 with fail;rw[<-hw1,<-HG.out];clear hw1;go_upto_region 10 with fail;go_region_held3(fun wx=>wx.cell?⟨g,0,none⟩=some(pt0 rb)/\(wx.cell?⟨g+1,0,none⟩=some(.int .i64 1)/\wx.cell?⟨g+1,1,none⟩=some(.int .i64 n)/\wx.cell?⟨g+1,2,none⟩=some(stv nm)/\wx.cell?⟨g+1,3,none⟩=some(.slice ao ks.len cap))/\wx.cell?⟨g+2,0,none⟩=some(.int .i64(ar:Nat))/\wx.cell?⟨g+2,1,none⟩=some(.int .i64(u:Nat)))(go_keep)(first|(go_at_call 87;refine HK.mono ?_;rintro z w2⟨rfl,B2⟩;have S2:=SD.trans(aa.ofBelow(I:=I17) o1 B2);obtain⟨d0,⟨f0,f1,f2,f3⟩,e0,e1⟩:=KK.out _ _ S2;have HF:=HC w2 B2)|(go_at_call 86;refine HF.mono ?_;rintro z w3⟨rfl,o3,E3,S3⟩;obtain⟨d0,⟨f0,f1,f2,f3⟩,e0,e1⟩:=KK.out _ _(S2.trans S3)))
  all_goals
   go_wp2
   go_end0
   exact⟨rfl,⟨o3,E3,(S0.trans S2).trans S3⟩,(eF s n 1 u(by omega)).le(by omega)⟩
 by_cases h2:k=2
 ·subst h2;have hv:emE ls⟨2,n,nm,a,ks⟩ ar u s=s.con n 2 u:=by simp[emE,prt]
  rw[hv];have hke:kdE⟨2,n,nm,a,ks⟩=2:=by simp[kdE,kdN]
  obtain⟨g,hg⟩:∃g,g=w.heap.size:=⟨_,rfl⟩
  obtain⟨w1,hw1⟩:∃w1,w1=((w.alloc(.cells #[pt0 rb] 87)).alloc(.cells #[.int .i64 2,.int .i64 n,stv nm,.slice ao ks.len cap] 34)).alloc(.cells #[.int .i64(ar:Nat),.int .i64(u:Nat)] 91):=⟨_,rfl⟩
  obtain⟨z1,z2,z3,z4,z5⟩:=al3 w(.cells #[pt0 rb] 87)(.cells #[.int .i64 2,.int .i64 n,stv nm,.slice ao ks.len cap] 34)(.cells #[.int .i64(ar:Nat),.int .i64(u:Nat)] 91);rw[<-hw1,<-hg] at z1 z2 z3 z4 z5;have s0:∀ {I:Nat->Prop},aa I w o w1(ae w o 0):=fun {I}=>dI o(by rw[<-hg];exact z5);have hnl:∀ j,ae w o 0(g+j)=0:=fun j=>ax(by omega);have SN1:=S.stepO(s0(I:=fun _=>False)) id;have E1:=h.step(s0(I:=fun _=>False)) noF;have X1:=X.step(s0(I:=fun _=>False)) id;have S0:=s0(I:=I17);have b1w:Blk w1(ae w o 0) 0 g(.cells #[pt0 rb] 87):=⟨z1,hnl 0⟩
  have b1n:Blk w1(ae w o 0) 0(g+1)(.cells #[.int .i64 2,.int .i64 n,stv nm,.slice ao ks.len cap] 34):=⟨z2,hnl 1⟩
  have b1a:Blk w1(ae w o 0) 0(g+2)(.cells #[.int .i64(ar:Nat),.int .i64(u:Nat)] 91):=⟨z3,hnl 2⟩
  generalize ae w o 0=o1 at *;have HG:=Lib.hid hg;have KK:Hid(∀ w' o',aa I17 w1 o1 w' o'->Bx w' g rb 2 n nm(.slice ao ks.len cap) ar u):=fun w' o' S=>⟨bD(b1w.step S aA).1,(ai(b1n.step S aA).1).1,(aE(b1a.step S aA).1).1,(aE(b1a.step S aA).1).2⟩;obtain⟨c0,⟨m0,m1,m2,m3⟩,a0,a1⟩:=KK.out _ _(aa.refl I17 w1 o1);obtain⟨d0,⟨f0,f1,f2,f3⟩,e0,e1⟩:=KK.out _ _((aa.refl I17 w1 o1).drew);have SD:aa I17 w1 o1 w1.drew o1:=(aa.refl _ w1 o1).drew;have dF:aa(fun _=>False) w1 o1 w1.drew o1:=(aa.refl _ w1 o1).drew;have HKS:=Lib.hid hks;have HLS:=Lib.hid hls;clear s0 hnl z1 z2 z3 z4 z5 h X S hg hks hls hdl;have HK:=gN nc(ks.size+1)⟨2,n,nm,a,ks⟩ ao cap w1.drew(by show ks.size < _;omega) hoe(SN1.stepO dF id).all;rw[ah,hke] at HK;simp only at HK;have HC:∀ w2,Below w1.drew.heap.size w1.drew w2->Calls Tryz.prog 86 #[.pointer(some⟨rb,0,none⟩),.int .i64 n,.int .i64 2,spV ar u] w2(jU w2 o1 rb lv(s.con n 2 u)(.tuple #[])):=fun w2 B=>bY n 2 ar u w2 o1 rb lv ls s hoe.1.2.2.2(by omega)(by omega) hd(by omega)((X1.step dF id).below B)((E1.step dF noF).below B);clear hv hke b1w b1n b1a SN1 E1 hok;go_enter Tryz.func46,Tryz.ntmps46;go_upto_region 1 with fail;rw[<-hw1,<-HG.out];clear hw1;go_upto_region 10 with fail;go_region_held3(fun wx=>wx.cell?⟨g,0,none⟩=some(pt0 rb)/\(wx.cell?⟨g+1,0,none⟩=some(.int .i64 2)/\wx.cell?⟨g+1,1,none⟩=some(.int .i64 n)/\wx.cell?⟨g+1,2,none⟩=some(stv nm)/\wx.cell?⟨g+1,3,none⟩=some(.slice ao ks.len cap))/\wx.cell?⟨g+2,0,none⟩=some(.int .i64(ar:Nat))/\wx.cell?⟨g+2,1,none⟩=some(.int .i64(u:Nat)))(go_keep)(first|(go_at_call 87;refine HK.mono ?_;rintro z w2⟨rfl,B2⟩;have S2:=SD.trans(aa.ofBelow(I:=I17) o1 B2);obtain⟨d0,⟨f0,f1,f2,f3⟩,e0,e1⟩:=KK.out _ _ S2;have HF:=HC w2 B2)|(go_at_call 86;refine HF.mono ?_;rintro z w3⟨rfl,o3,E3,S3⟩;obtain⟨d0,⟨f0,f1,f2,f3⟩,e0,e1⟩:=KK.out _ _(S2.trans S3)))
  all_goals
   go_wp2
   go_end0
   exact⟨rfl,⟨o3,E3,(S0.trans S2).trans S3⟩,(eF s n 2 u(by omega)).le(by omega)⟩
 by_cases h3:k=3
 ·subst h3;have hv:emE ls⟨3,n,nm,a,ks⟩ ar u s=(s.kc n).push 2(s.cs.idxOf n) 0 u:=by simp[emE,prt]
  rw[hv];obtain⟨g,hg⟩:∃g,g=w.heap.size:=⟨_,rfl⟩
  obtain⟨w1,hw1⟩:∃w1,w1=((w.alloc(.cells #[pt0 rb] 87)).alloc(.cells #[.int .i64 3,.int .i64 n,stv nm,.slice ao ks.len cap] 34)).alloc(.cells #[.int .i64(ar:Nat),.int .i64(u:Nat)] 91):=⟨_,rfl⟩
  obtain⟨z1,z2,z3,z4,z5⟩:=al3 w(.cells #[pt0 rb] 87)(.cells #[.int .i64 3,.int .i64 n,stv nm,.slice ao ks.len cap] 34)(.cells #[.int .i64(ar:Nat),.int .i64(u:Nat)] 91);rw[<-hw1,<-hg] at z1 z2 z3 z4 z5;have s0:∀ {I:Nat->Prop},aa I w o w1(ae w o 0):=fun {I}=>dI o(by rw[<-hg];exact z5);have hnl:∀ j,ae w o 0(g+j)=0:=fun j=>ax(by omega);have SN1:=S.stepO(s0(I:=fun _=>False)) id;have E1:=h.step(s0(I:=fun _=>False)) noF;have X1:=X.step(s0(I:=fun _=>False)) id;have S0:=s0(I:=I17);have b1w:Blk w1(ae w o 0) 0 g(.cells #[pt0 rb] 87):=⟨z1,hnl 0⟩
  have b1n:Blk w1(ae w o 0) 0(g+1)(.cells #[.int .i64 3,.int .i64 n,stv nm,.slice ao ks.len cap] 34):=⟨z2,hnl 1⟩
  have b1a:Blk w1(ae w o 0) 0(g+2)(.cells #[.int .i64(ar:Nat),.int .i64(u:Nat)] 91):=⟨z3,hnl 2⟩
  generalize ae w o 0=o1 at *;have HG:=Lib.hid hg;have KK:Hid(∀ w' o',aa I17 w1 o1 w' o'->Bx w' g rb 3 n nm(.slice ao ks.len cap) ar u):=fun w' o' S=>⟨bD(b1w.step S aA).1,(ai(b1n.step S aA).1).1,(aE(b1a.step S aA).1).1,(aE(b1a.step S aA).1).2⟩;obtain⟨c0,⟨m0,m1,m2,m3⟩,a0,a1⟩:=KK.out _ _(aa.refl I17 w1 o1);obtain⟨d0,⟨f0,f1,f2,f3⟩,e0,e1⟩:=KK.out _ _((aa.refl I17 w1 o1).drew);have SD:aa I17 w1 o1 w1.drew o1:=(aa.refl _ w1 o1).drew;have dF:aa(fun _=>False) w1 o1 w1.drew o1:=(aa.refl _ w1 o1).drew;have HKS:=Lib.hid hks;have HLS:=Lib.hid hls;clear s0 hnl z1 z2 z3 z4 z5 h X S hg hks hls hdl;have HK:=tC n w1.drew o1 rb lv ls s hoe.1.2.2.2(by omega)(X1.step dF id)(E1.step dF noF);have hix:s.cs.idxOf n<=268435455:=by
   have:=List.idxOf_le_length(a:=n)(l:=s.cs)
   unfold Em.mes at hm;omega
  have gk:=DL s n;have HC:∀ w2 o2,aa I17 w1.drew o1 w2 o2->EmW w2 o2 rb lv(s.kc n)->Calls Tryz.prog 88 #[.pointer(some⟨rb,0,none⟩),.int .i64 2,.int .i64(s.cs.idxOf n:Nat),.int .i64 0,spV ar u] w2(jU w2 o2 rb lv((s.kc n).push 2(s.cs.idxOf n) 0 u)(.tuple #[])):=fun w2 o2 S2 E2=>qU 2(s.cs.idxOf n) 0 ar u w2 o2 rb lv ls(s.kc n)(by omega) hix(by omega)(by omega)(gk.dp hd)(by have:=gk.mes;omega)((X1.step dF id).step S2 aA) E2;clear hv b1w b1n b1a SN1 E1 hok;go_enter Tryz.func46,Tryz.ntmps46;go_upto_region 1 with fail;rw[<-hw1,<-HG.out];clear hw1;go_upto_region 12 with fail;go_region_held3(fun wx=>wx.cell?⟨g,0,none⟩=some(pt0 rb)/\wx.cell?⟨g+1,1,none⟩=some(.int .i64 n)/\wx.cell?⟨g+2,0,none⟩=some(.int .i64(ar:Nat))/\wx.cell?⟨g+2,1,none⟩=some(.int .i64(u:Nat)))(go_keep)(first|(go_at_call 89;refine HK.mono ?_;rintro z w2⟨rfl,o2,E2,S2⟩;have S3:=SD.trans S2;obtain⟨d0,⟨f0,f1,f2,f3⟩,e0,e1⟩:=KK.out _ _ S3;have HF:=HC w2 o2 S2 E2)|(go_at_call 88;refine HF.mono ?_;rintro z w3⟨rfl,o3,E3,S4⟩;obtain⟨d0,⟨f0,f1,f2,f3⟩,e0,e1⟩:=KK.out _ _(S3.trans S4)))
  all_goals
   go_wp2
   go_end0
   exact⟨rfl,⟨o3,E3,(S0.trans S3).trans S4⟩,(gk.trans(sY _ 2 _ 0 u(by omega))).le(by omega)⟩
 by_cases h5:k=5
 ·subst h5;have hn:=hdl.2.2.2.2.2.1(Or.inl rfl);have hn3:n<=3:=hoe.1.2.1 rfl;obtain⟨n0,hn0⟩:∃n0:Nat,(n0:Int)=n:=⟨n.toNat,by omega⟩
  subst hn0;have hv:emE ls⟨5,(n0:Int),nm,a,ks⟩ ar u s=s.push 3 n0 0 u:=by simp[emE,prt]
  rw[hv];obtain⟨g,hg⟩:∃g,g=w.heap.size:=⟨_,rfl⟩
  obtain⟨w1,hw1⟩:∃w1,w1=((w.alloc(.cells #[pt0 rb] 87)).alloc(.cells #[.int .i64 5,.int .i64(n0:Int),stv nm,.slice ao ks.len cap] 34)).alloc(.cells #[.int .i64(ar:Nat),.int .i64(u:Nat)] 91):=⟨_,rfl⟩
  obtain⟨z1,z2,z3,z4,z5⟩:=al3 w(.cells #[pt0 rb] 87)(.cells #[.int .i64 5,.int .i64(n0:Int),stv nm,.slice ao ks.len cap] 34)(.cells #[.int .i64(ar:Nat),.int .i64(u:Nat)] 91);rw[<-hw1,<-hg] at z1 z2 z3 z4 z5;have s0:∀ {I:Nat->Prop},aa I w o w1(ae w o 0):=fun {I}=>dI o(by rw[<-hg];exact z5);have hnl:∀ j,ae w o 0(g+j)=0:=fun j=>ax(by omega);have SN1:=S.stepO(s0(I:=fun _=>False)) id;have E1:=h.step(s0(I:=fun _=>False)) noF;have X1:=X.step(s0(I:=fun _=>False)) id;have S0:=s0(I:=I17);have b1w:Blk w1(ae w o 0) 0 g(.cells #[pt0 rb] 87):=⟨z1,hnl 0⟩
  have b1n:Blk w1(ae w o 0) 0(g+1)(.cells #[.int .i64 5,.int .i64(n0:Int),stv nm,.slice ao ks.len cap] 34):=⟨z2,hnl 1⟩
  have b1a:Blk w1(ae w o 0) 0(g+2)(.cells #[.int .i64(ar:Nat),.int .i64(u:Nat)] 91):=⟨z3,hnl 2⟩
  generalize ae w o 0=o1 at *;have HG:=Lib.hid hg;have KK:Hid(∀ w' o',aa I17 w1 o1 w' o'->Bx w' g rb 5(n0:Int) nm(.slice ao ks.len cap) ar u):=fun w' o' S=>⟨bD(b1w.step S aA).1,(ai(b1n.step S aA).1).1,(aE(b1a.step S aA).1).1,(aE(b1a.step S aA).1).2⟩;obtain⟨c0,⟨m0,m1,m2,m3⟩,a0,a1⟩:=KK.out _ _(aa.refl I17 w1 o1);obtain⟨d0,⟨f0,f1,f2,f3⟩,e0,e1⟩:=KK.out _ _((aa.refl I17 w1 o1).drew);have SD:aa I17 w1 o1 w1.drew o1:=(aa.refl _ w1 o1).drew;have dF:aa(fun _=>False) w1 o1 w1.drew o1:=(aa.refl _ w1 o1).drew;have HKS:=Lib.hid hks;have HLS:=Lib.hid hls;clear s0 hnl z1 z2 z3 z4 z5 h X S hg hks hls hdl;have HK:=qU 3 n0 0 ar u w1 o1 rb lv ls s(by omega)(by omega)(by omega)(by omega) hd(by omega) X1 E1;clear hv b1w b1n b1a SN1 E1 hok;go_enter Tryz.func46,Tryz.ntmps46;go_upto_region 1 with fail;rw[<-hw1,<-HG.out];clear hw1;go_wp2_with(first|(go_at_call 88;refine HK.mono ?_;rintro z w3⟨rfl,o3,E3,S3⟩))
  go_end0
  exact⟨rfl,⟨o3,E3,S0.trans S3⟩,(sY s 3 n0 0 u(by omega)).le(by omega)⟩
 by_cases h17:k=17
 ·subst h17;have hl2:ks.len=2:=hdl.2.2.1(by omega)(by omega);obtain⟨x,y,hks2⟩:=ep hl2;subst hks2;simp only[aV] at hN hm hu har;have hv:emE ls⟨17,n,nm,a,Fs.ex x(Fs.ex y .nil)⟩ ar u s=(emE ls x ar u s).fork 14(emE ls y ar u)(fun t=>t.con(0:Nat) 2 u):=by show prt ls 17 n nm _(emE ls x::emE ls y::[]) ar u s=_;simp[prt]
  rw[hv];have hsz:(Fs.ex x(Fs.ex y .nil)).size=x.kids.size+y.kids.size+2:=by simp only[aV,Fs.size]<;>omega
  rw[hsz];have hz0:Fs.nil.size=0:=rfl;rw[hz0] at hN hm hu har;obtain⟨g,hg⟩:∃g,g=w.heap.size:=⟨_,rfl⟩
  obtain⟨w1,hw1⟩:∃w1,w1=((w.alloc(.cells #[pt0 rb] 87)).alloc(.cells #[.int .i64 17,.int .i64 n,stv nm,.slice ao(Fs.ex x(Fs.ex y .nil)).len cap] 34)).alloc(.cells #[.int .i64(ar:Nat),.int .i64(u:Nat)] 91):=⟨_,rfl⟩
  obtain⟨z1,z2,z3,z4,z5⟩:=al3 w(.cells #[pt0 rb] 87)(.cells #[.int .i64 17,.int .i64 n,stv nm,.slice ao(Fs.ex x(Fs.ex y .nil)).len cap] 34)(.cells #[.int .i64(ar:Nat),.int .i64(u:Nat)] 91);rw[<-hw1,<-hg] at z1 z2 z3 z4 z5;have s0:∀ {I:Nat->Prop},aa I w o w1(ae w o 0):=fun {I}=>dI o(by rw[<-hg];exact z5);have hnl:∀ j,ae w o 0(g+j)=0:=fun j=>ax(by omega);have SN1:=S.stepO(s0(I:=fun _=>False)) id;have E1:=h.step(s0(I:=fun _=>False)) noF;have X1:=X.step(s0(I:=fun _=>False)) id;have S0:=s0(I:=I17);have b1w:Blk w1(ae w o 0) 0 g(.cells #[pt0 rb] 87):=⟨z1,hnl 0⟩
  have b1n:Blk w1(ae w o 0) 0(g+1)(.cells #[.int .i64 17,.int .i64 n,stv nm,.slice ao(Fs.ex x(Fs.ex y .nil)).len cap] 34):=⟨z2,hnl 1⟩
  have b1a:Blk w1(ae w o 0) 0(g+2)(.cells #[.int .i64(ar:Nat),.int .i64(u:Nat)] 91):=⟨z3,hnl 2⟩
  generalize ae w o 0=o1 at *;have HG:=Lib.hid hg;have KK:Hid(∀ w' o',aa I17 w1 o1 w' o'->Bx w' g rb 17 n nm(.slice ao(Fs.ex x(Fs.ex y .nil)).len cap) ar u):=fun w' o' S=>⟨bD(b1w.step S aA).1,(ai(b1n.step S aA).1).1,(aE(b1a.step S aA).1).1,(aE(b1a.step S aA).1).2⟩;obtain⟨c0,⟨m0,m1,m2,m3⟩,a0,a1⟩:=KK.out _ _(aa.refl I17 w1 o1);obtain⟨d0,⟨f0,f1,f2,f3⟩,e0,e1⟩:=KK.out _ _((aa.refl I17 w1 o1).drew);have SD:aa I17 w1 o1 w1.drew o1:=(aa.refl _ w1 o1).drew;have dF:aa(fun _=>False) w1 o1 w1.drew o1:=(aa.refl _ w1 o1).drew;have HKS:=Lib.hid hks;have HLS:=Lib.hid hls;clear s0 hnl z1 z2 z3 z4 z5 h X S hg hks hls hdl;have HK:=xj nc N ih 17 n nm a x y ao cap 14 0 ar u w1 o1 rb lv ls s(by omega)(by omega) hok(by omega)(by omega) HLS.out hnc(by omega)(by omega) SN1 HKS.out(by omega) hd X1 E1;rw[ah] at HK;simp only at HK;clear hv b1w b1n b1a SN1 E1 hok hl2 hsz hz0;go_enter Tryz.func46,Tryz.ntmps46;go_upto_region 1 with fail;rw[<-hw1,<-HG.out];clear hw1;go_wp2_with(first|(go_at_call 90;refine HK.mono ?_;rintro z w3⟨rfl,⟨o3,E3,S3⟩,g3⟩))
  go_end0
  exact⟨rfl,⟨o3,E3,S0.trans S3⟩,g3.le(by omega)⟩
 by_cases h18:k=18
 ·subst h18;have hl2:ks.len=2:=hdl.2.2.1(by omega)(by omega);obtain⟨x,y,hks2⟩:=ep hl2;subst hks2;simp only[aV] at hN hm hu har;have hv:emE ls⟨18,n,nm,a,Fs.ex x(Fs.ex y .nil)⟩ ar u s=(emE ls x ar u s).fork 15(emE ls y ar u)(fun t=>t.con(1:Nat) 2 u):=by show prt ls 18 n nm _(emE ls x::emE ls y::[]) ar u s=_;simp[prt]
  rw[hv];have hsz:(Fs.ex x(Fs.ex y .nil)).size=x.kids.size+y.kids.size+2:=by simp only[aV,Fs.size]<;>omega
  rw[hsz];have hz0:Fs.nil.size=0:=rfl;rw[hz0] at hN hm hu har;obtain⟨g,hg⟩:∃g,g=w.heap.size:=⟨_,rfl⟩
  obtain⟨w1,hw1⟩:∃w1,w1=((w.alloc(.cells #[pt0 rb] 87)).alloc(.cells #[.int .i64 18,.int .i64 n,stv nm,.slice ao(Fs.ex x(Fs.ex y .nil)).len cap] 34)).alloc(.cells #[.int .i64(ar:Nat),.int .i64(u:Nat)] 91):=⟨_,rfl⟩
  obtain⟨z1,z2,z3,z4,z5⟩:=al3 w(.cells #[pt0 rb] 87)(.cells #[.int .i64 18,.int .i64 n,stv nm,.slice ao(Fs.ex x(Fs.ex y .nil)).len cap] 34)(.cells #[.int .i64(ar:Nat),.int .i64(u:Nat)] 91);rw[<-hw1,<-hg] at z1 z2 z3 z4 z5;have s0:∀ {I:Nat->Prop},aa I w o w1(ae w o 0):=fun {I}=>dI o(by rw[<-hg];exact z5);have hnl:∀ j,ae w o 0(g+j)=0:=fun j=>ax(by omega);have SN1:=S.stepO(s0(I:=fun _=>False)) id;have E1:=h.step(s0(I:=fun _=>False)) noF;have X1:=X.step(s0(I:=fun _=>False)) id;have S0:=s0(I:=I17);have b1w:Blk w1(ae w o 0) 0 g(.cells #[pt0 rb] 87):=⟨z1,hnl 0⟩
  have b1n:Blk w1(ae w o 0) 0(g+1)(.cells #[.int .i64 18,.int .i64 n,stv nm,.slice ao(Fs.ex x(Fs.ex y .nil)).len cap] 34):=⟨z2,hnl 1⟩
  have b1a:Blk w1(ae w o 0) 0(g+2)(.cells #[.int .i64(ar:Nat),.int .i64(u:Nat)] 91):=⟨z3,hnl 2⟩
  generalize ae w o 0=o1 at *;have HG:=Lib.hid hg;have KK:Hid(∀ w' o',aa I17 w1 o1 w' o'->Bx w' g rb 18 n nm(.slice ao(Fs.ex x(Fs.ex y .nil)).len cap) ar u):=fun w' o' S=>⟨bD(b1w.step S aA).1,(ai(b1n.step S aA).1).1,(aE(b1a.step S aA).1).1,(aE(b1a.step S aA).1).2⟩;obtain⟨c0,⟨m0,m1,m2,m3⟩,a0,a1⟩:=KK.out _ _(aa.refl I17 w1 o1);obtain⟨d0,⟨f0,f1,f2,f3⟩,e0,e1⟩:=KK.out _ _((aa.refl I17 w1 o1).drew);have SD:aa I17 w1 o1 w1.drew o1:=(aa.refl _ w1 o1).drew;have dF:aa(fun _=>False) w1 o1 w1.drew o1:=(aa.refl _ w1 o1).drew;have HKS:=Lib.hid hks;have HLS:=Lib.hid hls;clear s0 hnl z1 z2 z3 z4 z5 h X S hg hks hls hdl;have HK:=xj nc N ih 18 n nm a x y ao cap 15 1 ar u w1 o1 rb lv ls s(by omega)(by omega) hok(by omega)(by omega) HLS.out hnc(by omega)(by omega) SN1 HKS.out(by omega) hd X1 E1;rw[ah] at HK;simp only at HK;clear hv b1w b1n b1a SN1 E1 hok hl2 hsz hz0;go_enter Tryz.func46,Tryz.ntmps46;go_upto_region 1 with fail;rw[<-hw1,<-HG.out];clear hw1;go_wp2_with(first|(go_at_call 90;refine HK.mono ?_;rintro z w3⟨rfl,⟨o3,E3,S3⟩,g3⟩))
  go_end0
  exact⟨rfl,⟨o3,E3,S0.trans S3⟩,g3.le(by omega)⟩
 by_cases h19:k=19
 ·subst h19;have hl2:ks.len=3:=hdl.1 rfl;obtain⟨x,y,z,hks2⟩:=gY hl2;subst hks2;simp only[aV] at hN hm hu har;have hv:emE ls⟨19,n,nm,a,Fs.ex x(Fs.ex y(Fs.ex z .nil))⟩ ar u s=(emE ls x ar u s).fork 14(emE ls y ar u)(emE ls z ar u):=by show prt ls 19 n nm _(emE ls x::emE ls y::emE ls z::[]) ar u s=_;simp[prt]
  rw[hv];have hsz:(Fs.ex x(Fs.ex y(Fs.ex z .nil))).size=x.kids.size+y.kids.size+z.kids.size+3:=by simp only[aV,Fs.size]<;>omega
  rw[hsz];have hz0:Fs.nil.size=0:=rfl;rw[hz0] at hN hm hu har;have hlen:(Fs.ex x(Fs.ex y(Fs.ex z .nil))).len=3:=rfl;have hmf:∀ (fn:Fn)(first cap:Array Value)(w:World),(Instr.makeFunc fn first cap).run Tryz.prog w=.ok(.func fn first cap) w:=fun _ _ _ _=>rfl;obtain⟨g,hg⟩:∃g,g=w.heap.size:=⟨_,rfl⟩
  obtain⟨w1,hw1⟩:∃w1,w1=((w.alloc(.cells #[pt0 rb] 87)).alloc(.cells #[.int .i64 19,.int .i64 n,stv nm,.slice ao(Fs.ex x(Fs.ex y(Fs.ex z .nil))).len cap] 34)).alloc(.cells #[.int .i64(ar:Nat),.int .i64(u:Nat)] 91):=⟨_,rfl⟩
  obtain⟨z1,z2,z3,z4,z5⟩:=al3 w(.cells #[pt0 rb] 87)(.cells #[.int .i64 19,.int .i64 n,stv nm,.slice ao(Fs.ex x(Fs.ex y(Fs.ex z .nil))).len cap] 34)(.cells #[.int .i64(ar:Nat),.int .i64(u:Nat)] 91);rw[<-hw1,<-hg] at z1 z2 z3 z4 z5;have s0:∀ {I:Nat->Prop},aa I w o w1(ae w o 0):=fun {I}=>dI o(by rw[<-hg];exact z5);have hnl:∀ j,ae w o 0(g+j)=0:=fun j=>ax(by omega);have SN1:=S.stepO(s0(I:=fun _=>False)) id;have E1:=h.step(s0(I:=fun _=>False)) noF;have X1:=X.step(s0(I:=fun _=>False)) id;have S0:=s0(I:=I17);have b1w:Blk w1(ae w o 0) 0 g(.cells #[pt0 rb] 87):=⟨z1,hnl 0⟩
  have b1n:Blk w1(ae w o 0) 0(g+1)(.cells #[.int .i64 19,.int .i64 n,stv nm,.slice ao(Fs.ex x(Fs.ex y(Fs.ex z .nil))).len cap] 34):=⟨z2,hnl 1⟩
  have b1a:Blk w1(ae w o 0) 0(g+2)(.cells #[.int .i64(ar:Nat),.int .i64(u:Nat)] 91):=⟨z3,hnl 2⟩
  generalize ae w o 0=o1 at *;have HG:=Lib.hid hg;have KK:Hid(∀ w' o',aa I17 w1 o1 w' o'->Bx w' g rb 19 n nm(.slice ao(Fs.ex x(Fs.ex y(Fs.ex z .nil))).len cap) ar u):=fun w' o' S=>⟨bD(b1w.step S aA).1,(ai(b1n.step S aA).1).1,(aE(b1a.step S aA).1).1,(aE(b1a.step S aA).1).2⟩;obtain⟨c0,⟨m0,m1,m2,m3⟩,a0,a1⟩:=KK.out _ _(aa.refl I17 w1 o1);obtain⟨d0,⟨f0,f1,f2,f3⟩,e0,e1⟩:=KK.out _ _((aa.refl I17 w1 o1).drew);have SD:aa I17 w1 o1 w1.drew o1:=(aa.refl _ w1 o1).drew;have dF:aa(fun _=>False) w1 o1 w1.drew o1:=(aa.refl _ w1 o1).drew;have HKS:=Lib.hid hks;have HLS:=Lib.hid hls;clear s0 hnl z1 z2 z3 z4 z5 h X S hg hks hls hdl;obtain⟨b,off,ak,ck,rfl,-,Sy,NK⟩:=dX(x:=.nil) SN1 0 rfl;have HC:=ih x ak ck ar u w1.drew o1 rb lv ls s(by omega)(aK hok).1 HLS.out hnc(Sy.stepO dF id) HKS.out(by omega)(by omega)(by omega) hd(X1.step dF id)(E1.step dF noF);rw[ah] at HC;have CX:Hid(∀ w' o',aa I17 w1 o1 w' o'->Cx rb g(g+1)(g+2) 19 n nm(Fs.ex x(Fs.ex y(Fs.ex z .nil)))(some⟨b,off,none⟩) cap ar u w' o'):=fun w' o' S=>⟨b1w.step S aA,b1n.step S aA,b1a.step S aA,SN1.stepO S aA⟩;have NN:Hid(∀ w' o',aa I17 w1 o1 w' o'->Nd4 w' b off x ak ck):=fun w' o' S=>NK S aA;have FK:∀ w2 o2 s2,Cx rb g(g+1)(g+2) 19 n nm(Fs.ex x(Fs.ex y(Fs.ex z .nil)))(some⟨b,off,none⟩) cap ar u w2 o2->EmX w2 o2 lv ls->EmW w2 o2 rb lv s2->s2.mes+(300*(y.kids.size+1)+300*(z.kids.size+1)+2)<=100000000->s2.dp<=1000000001->s2.ks.length=ls.length->_:=fun w2 o2 s2 K2 X2 E2 hm2 hd2 hk2 =>
   rD 14 92 93 #[pt0 g,pt0(g+1),pt0(g+2)] #[pt0 g,pt0(g+1),pt0(g+2)](emE ls y ar u)(emE ls z ar u)(300*(y.kids.size+1))(300*(z.kids.size+1)) _(Cx.keeps _ _ _ _ _ _ _ _ _ _ _ _) Cw Cc w2 o2 rb lv ls(yj nc N ih rb g(g+1)(g+2) 19 n nm x y z(some⟨b,off,none⟩) cap ar u lv ls hok(by omega) HLS.out hnc(by omega)(by omega))(yo nc N ih rb g(g+1)(g+2) 19 n nm x y z(some⟨b,off,none⟩) cap ar u lv ls hok(by omega) HLS.out hnc(by omega)(by omega)) s2(by omega) hm2 hd2 hk2 X2 E2 K2
  obtain⟨x0,x1,x2,x3⟩:=NN.out _ _(aa.refl I17 w1 o1);obtain⟨y0,y1,y2,y3⟩:=NN.out _ _ SD;rw[hlen] at hw1 m3 f3 KK ⊢;clear hv b1w b1n b1a SN1 E1 hl2 hsz hz0 hlen Sy NK;go_enter Tryz.func46,Tryz.ntmps46;go_upto_region 1 with fail;rw[<-hw1,<-HG.out];clear hw1;go_upto_region 20 with fail;go_region_held3(fun wx=>wx.cell?⟨g,0,none⟩=some(pt0 rb)/\wx.cell?⟨g+1,3,none⟩=some(.slice(some⟨b,off,none⟩) 3 cap)/\(wx.cell?⟨b,off,none⟩=some(.int .i64 x.k)/\wx.cell?⟨b,off+1,none⟩=some(.int .i64 x.n)/\wx.cell?⟨b,off+2,none⟩=some(stv x.nm)/\wx.cell?⟨b,off+3,none⟩=some(.slice ak x.kids.len ck))/\wx.cell?⟨g+2,0,none⟩=some(.int .i64(ar:Nat))/\wx.cell?⟨g+2,1,none⟩=some(.int .i64(u:Nat)))(go_keep)(first|(go_at_call 46;refine HC.mono ?_;rintro z2 w2⟨rfl,⟨o2,E2,S2⟩,g2⟩;have S3:=SD.trans S2;obtain⟨d0,⟨f0,f1,f2,f3⟩,e0,e1⟩:=KK.out _ _ S3;obtain⟨y0,y1,y2,y3⟩:=NN.out _ _ S3))
  all_goals
   have HF:=FK w2 o2 _(CX.out _ _ S3)(X1.step S3 aA) E2(by have:=g2.mes;omega)(g2.dp hd)(g2.ks.trans HKS.out);clear FK HC KK CX NN;go_wp2_with(first|(go_at_call 91;refine HF.mono ?_;rintro z2 w4⟨rfl,⟨o4,E4,S4⟩,g4⟩))
   go_end0
   exact⟨rfl,⟨o4,E4,(S0.trans S3).trans S4⟩,(g2.trans g4).le(by omega)⟩
 by_cases h26:k=26
 ·subst h26;have hl2:ks.len=1:=hdl.2.1 rfl;obtain⟨x,hks2⟩:=iW hl2;subst hks2;simp only[aV] at hN hm hu har;have hv:emE ls⟨26,n,nm,a,Fs.ex x .nil⟩ ar u s=((emE ls x ar u((s.cel n.toNat(kdE x)).lay 17 n.toNat 0)).lay 18 n.toNat 0).land s.ws.length:=by show prt ls 26 n nm(kdE x::[])(emE ls x::[]) ar u s=_;simp[prt]
  rw[hv];have hsz:(Fs.ex x .nil).size=x.kids.size+1:=by simp only[aV,Fs.size]<;>omega
  rw[hsz];have hz0:Fs.nil.size=0:=rfl;rw[hz0] at hN hm hu har;obtain⟨g,hg⟩:∃g,g=w.heap.size:=⟨_,rfl⟩
  obtain⟨w1,hw1⟩:∃w1,w1=((w.alloc(.cells #[pt0 rb] 87)).alloc(.cells #[.int .i64 26,.int .i64 n,stv nm,.slice ao(Fs.ex x .nil).len cap] 34)).alloc(.cells #[.int .i64(ar:Nat),.int .i64(u:Nat)] 91):=⟨_,rfl⟩
  obtain⟨z1,z2,z3,z4,z5⟩:=al3 w(.cells #[pt0 rb] 87)(.cells #[.int .i64 26,.int .i64 n,stv nm,.slice ao(Fs.ex x .nil).len cap] 34)(.cells #[.int .i64(ar:Nat),.int .i64(u:Nat)] 91);rw[<-hw1,<-hg] at z1 z2 z3 z4 z5;have s0:∀ {I:Nat->Prop},aa I w o w1(ae w o 0):=fun {I}=>dI o(by rw[<-hg];exact z5);have hnl:∀ j,ae w o 0(g+j)=0:=fun j=>ax(by omega);have SN1:=S.stepO(s0(I:=fun _=>False)) id;have E1:=h.step(s0(I:=fun _=>False)) noF;have X1:=X.step(s0(I:=fun _=>False)) id;have S0:=s0(I:=I17);have b1w:Blk w1(ae w o 0) 0 g(.cells #[pt0 rb] 87):=⟨z1,hnl 0⟩
  have b1n:Blk w1(ae w o 0) 0(g+1)(.cells #[.int .i64 26,.int .i64 n,stv nm,.slice ao(Fs.ex x .nil).len cap] 34):=⟨z2,hnl 1⟩
  have b1a:Blk w1(ae w o 0) 0(g+2)(.cells #[.int .i64(ar:Nat),.int .i64(u:Nat)] 91):=⟨z3,hnl 2⟩
  generalize ae w o 0=o1 at *;have HG:=Lib.hid hg;have KK:Hid(∀ w' o',aa I17 w1 o1 w' o'->Bx w' g rb 26 n nm(.slice ao(Fs.ex x .nil).len cap) ar u):=fun w' o' S=>⟨bD(b1w.step S aA).1,(ai(b1n.step S aA).1).1,(aE(b1a.step S aA).1).1,(aE(b1a.step S aA).1).2⟩;obtain⟨c0,⟨m0,m1,m2,m3⟩,a0,a1⟩:=KK.out _ _(aa.refl I17 w1 o1);obtain⟨d0,⟨f0,f1,f2,f3⟩,e0,e1⟩:=KK.out _ _((aa.refl I17 w1 o1).drew);have SD:aa I17 w1 o1 w1.drew o1:=(aa.refl _ w1 o1).drew;have dF:aa(fun _=>False) w1 o1 w1.drew o1:=(aa.refl _ w1 o1).drew;have HKS:=Lib.hid hks;have HLS:=Lib.hid hls;clear s0 hnl z1 z2 z3 z4 z5 h X S hg hks hls hdl;have HK:=Cz nc N ih n nm a x ao cap ar u w1 o1 rb lv ls s hoe(by omega) HLS.out hnc(by omega)(by omega) SN1 HKS.out(by omega) hd X1 E1;rw[ah] at HK;simp only at HK;clear hv b1w b1n b1a SN1 E1 hok hl2 hsz hz0;go_enter Tryz.func46,Tryz.ntmps46;go_upto_region 1 with fail;rw[<-hw1,<-HG.out];clear hw1;go_wp2_with(first|(go_at_call 94;refine HK.mono ?_;rintro z w3⟨rfl,⟨o3,E3,S3⟩,g3⟩))
  go_end0
  exact⟨rfl,⟨o3,E3,S0.trans S3⟩,g3.le(by omega)⟩
 by_cases h21:k=21
 ·subst h21;obtain⟨hl2,hn⟩:=hdl.2.2.2.1 rfl;obtain⟨x,y,hks2⟩:=ep hl2;subst hks2;simp only[aV] at hN hm hu har;have hv:emE ls⟨21,n,nm,a,Fs.ex x(Fs.ex y .nil)⟩ ar u s=qua ls n(emE ls x)(emE ls y) ar u s:=by show prt ls 21 n nm _(emE ls x::emE ls y::[]) ar u s=_;simp[prt]
  rw[hv];have hsz:(Fs.ex x(Fs.ex y .nil)).size=x.kids.size+y.kids.size+2:=by simp only[aV,Fs.size]<;>omega
  rw[hsz];have hz0:Fs.nil.size=0:=rfl;rw[hz0] at hN hm hu har;obtain⟨g,hg⟩:∃g,g=w.heap.size:=⟨_,rfl⟩
  obtain⟨w1,hw1⟩:∃w1,w1=((w.alloc(.cells #[pt0 rb] 87)).alloc(.cells #[.int .i64 21,.int .i64 n,stv nm,.slice ao(Fs.ex x(Fs.ex y .nil)).len cap] 34)).alloc(.cells #[.int .i64(ar:Nat),.int .i64(u:Nat)] 91):=⟨_,rfl⟩
  obtain⟨z1,z2,z3,z4,z5⟩:=al3 w(.cells #[pt0 rb] 87)(.cells #[.int .i64 21,.int .i64 n,stv nm,.slice ao(Fs.ex x(Fs.ex y .nil)).len cap] 34)(.cells #[.int .i64(ar:Nat),.int .i64(u:Nat)] 91);rw[<-hw1,<-hg] at z1 z2 z3 z4 z5;have s0:∀ {I:Nat->Prop},aa I w o w1(ae w o 0):=fun {I}=>dI o(by rw[<-hg];exact z5);have hnl:∀ j,ae w o 0(g+j)=0:=fun j=>ax(by omega);have SN1:=S.stepO(s0(I:=fun _=>False)) id;have E1:=h.step(s0(I:=fun _=>False)) noF;have X1:=X.step(s0(I:=fun _=>False)) id;have S0:=s0(I:=I17);have b1w:Blk w1(ae w o 0) 0 g(.cells #[pt0 rb] 87):=⟨z1,hnl 0⟩
  have b1n:Blk w1(ae w o 0) 0(g+1)(.cells #[.int .i64 21,.int .i64 n,stv nm,.slice ao(Fs.ex x(Fs.ex y .nil)).len cap] 34):=⟨z2,hnl 1⟩
  have b1a:Blk w1(ae w o 0) 0(g+2)(.cells #[.int .i64(ar:Nat),.int .i64(u:Nat)] 91):=⟨z3,hnl 2⟩
  generalize ae w o 0=o1 at *;have HG:=Lib.hid hg;have KK:Hid(∀ w' o',aa I17 w1 o1 w' o'->Bx w' g rb 21 n nm(.slice ao(Fs.ex x(Fs.ex y .nil)).len cap) ar u):=fun w' o' S=>⟨bD(b1w.step S aA).1,(ai(b1n.step S aA).1).1,(aE(b1a.step S aA).1).1,(aE(b1a.step S aA).1).2⟩;obtain⟨c0,⟨m0,m1,m2,m3⟩,a0,a1⟩:=KK.out _ _(aa.refl I17 w1 o1);obtain⟨d0,⟨f0,f1,f2,f3⟩,e0,e1⟩:=KK.out _ _((aa.refl I17 w1 o1).drew);have SD:aa I17 w1 o1 w1.drew o1:=(aa.refl _ w1 o1).drew;have dF:aa(fun _=>False) w1 o1 w1.drew o1:=(aa.refl _ w1 o1).drew;have HKS:=Lib.hid hks;have HLS:=Lib.hid hls;clear s0 hnl z1 z2 z3 z4 z5 h X S hg hks hls hdl;have HK:=zo nc N ih n nm a x y ao cap ar u w1 o1 rb lv ls s hn hok(by omega)(by omega) HLS.out hnc(by omega)(by omega) SN1 HKS.out(by omega) hd X1 E1;rw[ah] at HK;simp only at HK;clear hv b1w b1n b1a SN1 E1 hok hl2 hsz hz0;go_enter Tryz.func46,Tryz.ntmps46;go_upto_region 1 with fail;rw[<-hw1,<-HG.out];clear hw1;go_wp2_with(first|(go_at_call 95;refine HK.mono ?_;rintro z w3⟨rfl,⟨o3,E3,S3⟩,g3⟩))
  go_end0
  exact⟨rfl,⟨o3,E3,S0.trans S3⟩,g3.le(by omega)⟩
 have hopk:opK k:=by
  have hkk:=dK hoe.1.1;simp only at hkk;unfold opK;omega
 have hv:emE ls⟨k,n,nm,a,ks⟩ ar u s=opr k n nm(kdF ks)(kH(emF ls ks) 0 ar u s):=by
  show prt ls k n nm(kdF ks)(emF ls ks) ar u s=_;unfold prt;rw[if_neg h1,if_neg h2,if_neg h3,if_neg h5,if_neg h17,if_neg h18,if_neg h19,if_neg h26,if_neg h21]
 rw[hv];obtain⟨W,hW⟩:∃W,W=kH(emF ls ks) 0 ar u s:=⟨_,rfl⟩
 rw[<-hW];have HW:=Lib.hid hW;clear hW hv;obtain⟨g,hg⟩:∃g,g=w.heap.size:=⟨_,rfl⟩
 obtain⟨w1,hw1⟩:∃w1,w1=((w.alloc(.cells #[pt0 rb] 87)).alloc(.cells #[.int .i64 k,.int .i64 n,stv nm,.slice ao ks.len cap] 34)).alloc(.cells #[.int .i64(ar:Nat),.int .i64(u:Nat)] 91):=⟨_,rfl⟩
 obtain⟨z1,z2,z3,z4,z5⟩:=al3 w(.cells #[pt0 rb] 87)(.cells #[.int .i64 k,.int .i64 n,stv nm,.slice ao ks.len cap] 34)(.cells #[.int .i64(ar:Nat),.int .i64(u:Nat)] 91);rw[<-hw1,<-hg] at z1 z2 z3 z4 z5;have s0:∀ {I:Nat->Prop},aa I w o w1(ae w o 0):=fun {I}=>dI o(by rw[<-hg];exact z5);have hnl:∀ j,ae w o 0(g+j)=0:=fun j=>ax(by omega);have SN1:=S.stepO(s0(I:=fun _=>False)) id;have E1:=h.step(s0(I:=fun _=>False)) noF;have X1:=X.step(s0(I:=fun _=>False)) id;have S0:=s0(I:=I17);have b1w:Blk w1(ae w o 0) 0 g(.cells #[pt0 rb] 87):=⟨z1,hnl 0⟩
 have b1n:Blk w1(ae w o 0) 0(g+1)(.cells #[.int .i64 k,.int .i64 n,stv nm,.slice ao ks.len cap] 34):=⟨z2,hnl 1⟩
 have b1a:Blk w1(ae w o 0) 0(g+2)(.cells #[.int .i64(ar:Nat),.int .i64(u:Nat)] 91):=⟨z3,hnl 2⟩
 generalize ae w o 0=o1 at *;have HG:=Lib.hid hg;have KK:Hid(∀ w' o',aa I17 w1 o1 w' o'->Bx w' g rb k n nm(.slice ao ks.len cap) ar u):=fun w' o' S=>⟨bD(b1w.step S aA).1,(ai(b1n.step S aA).1).1,(aE(b1a.step S aA).1).1,(aE(b1a.step S aA).1).2⟩;obtain⟨c0,⟨m0,m1,m2,m3⟩,a0,a1⟩:=KK.out _ _(aa.refl I17 w1 o1);obtain⟨d0,⟨f0,f1,f2,f3⟩,e0,e1⟩:=KK.out _ _((aa.refl I17 w1 o1).drew);have SD:aa I17 w1 o1 w1.drew o1:=(aa.refl _ w1 o1).drew;have dF:aa(fun _=>False) w1 o1 w1.drew o1:=(aa.refl _ w1 o1).drew;have HKS:=Lib.hid hks;have HLS:=Lib.hid hls;clear s0 hnl z1 z2 z3 z4 z5 h X S hg hks hls hdl;have hlz:=eX ks;have hnmz:=wS hoe.1.1;simp only at hnmz;clear d0 f0 f1 f2 f3 e0 e1 b1w b1n b1a;have HOE:=Lib.hid hoe;have HOK:=Lib.hid hok;clear hoe hok;have hb1:(k==1)=false:=by simpa using h1
 have hb2:(k==2)=false:=by simpa using h2
 have hb3:(k==3)=false:=by simpa using h3
 have hb5:(k==5)=false:=by simpa using h5
 have hb17:(k==17)=false:=by simpa using h17
 have hb18:(k==18)=false:=by simpa using h18
 have hb19:(k==19)=false:=by simpa using h19
 have hb26:(k==26)=false:=by simpa using h26
 have hb21:(k==21)=false:=by simpa using h21
 clear h1 h2 h3 h5 h17 h18 h19 h26 h21;go_enter Tryz.func46,Tryz.ntmps46;go_upto_region 1 with fail;rw[<-hw1,<-HG.out];clear hw1;go_wp2_with fail;go_loopw [13](fun vi wr=>∃(d r:Fs)(s':Em)(o':Nat->Nat),Hid(ks=d.app r)/\vi=.int .i64(d.len:Nat)/\EmW wr o' rb lv s'/\aa I17 w1 o1 wr o'/\Grw s s'(300*d.size)/\Hid(W=kH(emF ls r) d.len ar u s'))(fun vi _=>ks.len-(intOf vi).toNat)
 case atStart=>exact⟨.nil,ks,s,o1,rfl,by show _=Value.int .i64((0:Nat):Int);rfl,E1,aa.refl _ _ _,⟨by simp,Nat.le_refl _,rfl,id⟩,HW⟩
 case round =>
  clear HW E1 c0 m0 m1 m2 m3 a0 a1;obtain⟨d,r,s',o',HK,rfl,E2,S2,g2,HW⟩:=hrel;obtain⟨c0,⟨m0,m1,m2,m3⟩,a0,a1⟩:=KK.out _ _ S2;have hlk:ks.len=d.len+r.len:=by rw[HK.out,Fs.len_app]
  have hsk:ks.size=d.size+r.size:=by rw[HK.out,Fs.size_app]
  have hld:=eX d;cases r using Fs.on with
  | nil =>
   have hkI:¬(d.len:Int)<(ks.len:Int):=by simp only[Fs.len] at hlk;omega
   have HW2:W=s':=HW.out;subst HW2;have HO:=qJ nc⟨k,n,nm,a,ks⟩ ao cap wr o' rb lv ls W hopk HOE.out(SN1.stepO S2 aA)(by show ks.len<=_;omega)(by show nm.length<=maxLen;unfold maxLen;omega)(by have:=g2.mes;simp only[Fs.size] at hsk;omega)(X1.step S2 aA) E2;rw[ah] at HO;simp only at HO;have hsd:d.size<=ks.size:=by omega
   clear HW HK hlk hsk hld hlz KK;go_wp2_with(first|(go_at_call 97;refine HO.mono ?_;rintro z w3⟨rfl,⟨o3,E3,S3⟩,g3⟩))
   go_end0
   exact⟨rfl,⟨o3,E3,(S0.trans S2).trans S3⟩,(g2.trans g3).le(by omega)⟩
  | cons kk kn km ka kks kr =>
   obtain⟨y,hy⟩:∃y:Ex,y=⟨kk,kn,km,ka,kks⟩:=⟨_,rfl⟩
   have hcy:Fs.cons kk kn km ka kks kr=Fs.ex y kr:=by rw[hy];rfl
   rw[hcy] at HK HW hlk hsk;have hly:(Fs.ex y kr).len=kr.len+1:=rfl;rw[hly] at hlk;rw[aV] at hsk;have oky:okE nc y:=by
    have h0:=HOK.out;rw[HK.out] at h0;exact(aK(ou h0)).1
   have SNk:=SN1.stepO S2 aA;rw[HK.out] at SNk;obtain⟨b,off,ak,ck,rfl,NN,Sy,NK⟩:=dX(x:=d) SNk d.len rfl;obtain⟨x0,x1,x2,x3⟩:=NN;have hkI:(d.len:Int)<(ks.len:Int):=by omega
   obtain⟨w3,hw3⟩:∃w3,w3=wr.alloc(.cells(ed y ak ck) 34):=⟨_,rfl⟩
   obtain⟨gy,hgy⟩:∃gy,gy=wr.heap.size:=⟨_,rfl⟩
   have s3:∀ {I:Nat->Prop},aa I wr o' w3(ae wr o' 0):=fun {I}=>dI o'(by rw[hw3];exact b1 _ _);have B3:Blk w3(ae wr o' 0) 0 gy(.cells(ed y ak ck) 34):=by rw[hw3,hgy];exact⟨heap_alloc_new _ _,ax(Nat.le_refl _)⟩
   have E3:=E2.step(s3(I:=fun _=>False)) noF;have S3:=S2.trans(s3(I:=I17));have Sy3:=Sy.stepO(s3(I:=fun _=>False)) id;generalize ae wr o' 0=o3 at *;have S3d:=S3.trans((aa.refl I17 w3 o3).drew);have HOv:=fun w'=>gp ar u d.len w'(by omega)(by omega);have HC:∀ w4,Below w3.drew.heap.size w3.drew w4->_:=fun w4 B4=>ih y ak ck ar(u+d.len) w4 o3 rb lv ls s'(by omega) oky HLS.out hnc((Sy3.stepO((aa.refl(fun _=>False) w3 o3).drew) id).stepO(aa.ofBelow(I:=fun _=>False) o3 B4) id)(g2.ks.trans HKS.out)(by have:=g2.mes;omega)(by omega)(by omega)(g2.dp hd)((X1.step S3d aA).below B4)((E3.step((aa.refl(fun _=>False) w3 o3).drew) noF).below B4);have KY:Hid(∀ w' o2,aa I17 w3 o3 w' o2->(w'.cell?⟨g,0,none⟩=some(pt0 rb)/\w'.cell?⟨g+2,0,none⟩=some(.int .i64(ar:Nat))/\w'.cell?⟨g+2,1,none⟩=some(.int .i64(u:Nat)))/\w'.cell?⟨gy,0,none⟩=some(.int .i64 y.k)/\w'.cell?⟨gy,1,none⟩=some(.int .i64 y.n)/\w'.cell?⟨gy,2,none⟩=some(stv y.nm)/\w'.cell?⟨gy,3,none⟩=some(.slice ak y.kids.len ck)):=fun w' o2 S=>by
    obtain⟨q0,-,q1,q2⟩:=KK.out _ _(S3.trans S);exact⟨⟨q0,q1,q2⟩,(ai(B3.step S aA).1).1⟩
   have HWn:Hid(W=kH(emF ls kr)(d.len+1) ar u(emE ls y ar(u+d.len) s')):=HW;have HKn:Hid(ks=(d.snoc y).app kr):=by show _=_;rw[HK.out,ol]
   have hdn:(d.snoc y).len=d.len+1:=Fs.len_snoc d y;have hds:(d.snoc y).size=d.size+(y.kids.size+1):=by unfold Fs.snoc;rw[Fs.size_app];rfl
   have HDN:=Lib.hid hdn;have HDS:=Lib.hid hds;have HGY:=Lib.hid hgy;have HLK:=Lib.hid hlk;have HSK:=Lib.hid hsk;clear s3 hy hcy hly SNk NK Sy hgy B3 HW HK E2 hdn hds hlk hsk;go_upto_region 5 with fail;rw[<-hw3,<-HGY.out];clear hw3;obtain⟨⟨i0,i1,i2⟩,j0,j1,j2,j3⟩:=KY.out _ _(aa.refl I17 w3 o3);obtain⟨⟨k0,k1,k2⟩,l0,l1,l2,l3⟩:=KY.out _ _((aa.refl I17 w3 o3).drew);clear x0 x1 x2 x3 c0 m0 m1 m2 m3 a0 a1;go_region_held3(fun wx=>wx.cell?⟨g,0,none⟩=some(pt0 rb)/\(wx.cell?⟨gy,0,none⟩=some(.int .i64 y.k)/\wx.cell?⟨gy,1,none⟩=some(.int .i64 y.n)/\wx.cell?⟨gy,2,none⟩=some(stv y.nm)/\wx.cell?⟨gy,3,none⟩=some(.slice ak y.kids.len ck))/\wx.cell?⟨g+2,0,none⟩=some(.int .i64(ar:Nat))/\wx.cell?⟨g+2,1,none⟩=some(.int .i64(u:Nat)))(go_keep)(first|(go_at_call 96;refine(HOv _).mono ?_;rintro z w4⟨rfl,B4⟩;have S4:=((aa.refl I17 w3 o3).drew).trans(aa.ofBelow(I:=I17) o3 B4);obtain⟨⟨k0,k1,k2⟩,l0,l1,l2,l3⟩:=KY.out _ _ S4;have HF:=HC w4 B4;rw[ah] at HF)|(go_at_call 46;refine HF.mono ?_;rintro z w5⟨rfl,⟨o5,E5,S5⟩,g5⟩;obtain⟨⟨k0,k1,k2⟩,l0,l1,l2,l3⟩:=KY.out _ _(S4.trans S5)))
   all_goals
    clear HC HF HOv;go_wp2;go_roundw
    case rel=>(try((repeat apply Exists.intro);refine⟨?_,rfl⟩));exact⟨d.snoc y,kr,_,o5,HKn,by rw[HDN.out];go_num,E5,(S3.trans S4).trans S5,by rw[HDS.out];exact(g2.trans g5).le(by omega),by rw[HDN.out];exact HWn⟩
    case measure=>have hlk:=HLK.out;simp[intOf];omega
theorem pO (nc:Nat):∀ N,fq nc N
 | 0=>fun e ao cap ar u w o rb lv ls s h=>by omega
 | N+1=>rK nc N(pO nc N)
theorem uQ (w:World)(b off c n:Nat)(hn:n<=100000)(hb:b<w.heap.size)(hc:w.cell? ⟨b,off,none⟩=some (.int .i64 1)) :
  Calls Tryz.prog 85 #[.slice(some⟨b,off,none⟩) 1 c,.int .i64(n:Nat)] w fun x w'=>∃g,x=.returned(.slice(some⟨g,0,none⟩) n n)/\w.heap.size<=g/\w'.heap[g]?=some(.cells(List.replicate n(Value.int .i64 1)).toArray 3(0,0))/\Below w.heap.size w w':=by
 obtain⟨ii,hii,hzi0,hzi1,hzi2⟩:=aH lT;have mk:∀ w:World,(Instr.makeSlice 35(.int .i64(n:Nat))(.int .i64(n:Nat))).run Tryz.prog w=.ok(.slice(some⟨w.heap.size,0,none⟩) n n)(w.alloc(.cells(madeCells(Value.int .i64 0).cells(n*1)) 3)):=fun w=>by
  have:=run_make(P:=Tryz.prog) w 35 3 ii _ Tryz.underlying35 hii hzi0 .i64 .i64 n n(by omega)(Int.le_refl _)(by rw[hzi2];omega)(by omega)
  rw[hzi1] at this;simpa only[Int.toNat_natCast] using this
 obtain⟨X,hX,hXl⟩:∃X:List Value,madeCells(Value.int .i64 0).cells(n*1)=X.toArray/\X.length=n:=⟨(madeCells(Value.int .i64 0).cells(n*1)).toList,by simp,by simp[madeCells,Value.cells]⟩
 rw[hX] at mk;have B0:Below w.heap.size w(w.alloc(.cells X.toArray 3)):=(Below.refl _ w).alloc(Nat.le_refl _) _;have E0:(w.alloc(.cells X.toArray 3)).heap[w.heap.size]?=some(.cells X.toArray 3(0,0)):=heap_alloc_new w _;have c0:=(B0.cell(p:=⟨b,off,none⟩) hb).trans hc;have m1:=fun w=>BI n hn w;clear hX hc;go_enter Tryz.func85,Tryz.ntmps85;go_wp2_with fail;refine(m1 _).mono ?_;rintro z w1⟨rfl,rfl⟩;go_upto_region 7 with fail;generalize w1.alloc(.cells X.toArray 3)=w0 at *;obtain⟨g,hg⟩:∃g,g=w1.heap.size:=⟨_,rfl⟩
 rw[<-hg] at E0 ⊢;have HG:Hid(g=w1.heap.size):=hg;have hgs:(Tryz.prog.info? 3).map(·.size)=some 1:=by rw[hii];simp[hzi1]
 obtain⟨cs,hcs⟩:∃cs,cs=List.replicate(min 1 n)(Value.int .i64 1):=⟨_,rfl⟩
 have hcl:cs.length=min 1 n:=by rw[hcs];simp
 have hcv:∀ j v,cs[j]?=some v->j=0/\v=Value.int .i64 1:=by
  intro j v hv;rw[hcs,List.getElem?_replicate] at hv;split at hv
  ·injection hv with hv
   exact⟨by omega,hv.symm⟩
  ·cases hv
 have hca:∀ j,j<cs.length->cs[j]?=some(Value.int .i64 1):=by
  intro j hj;rw[hcs,List.getElem?_replicate];rw[hcl] at hj;rw[if_pos hj]
 clear hcs hg;obtain⟨w2,hr2,hg2,hb2⟩:=fC(P:=Tryz.prog)(w:=w0) 35 35 3 3 Tryz.underlying35 hgs(some⟨g,0,none⟩)(some⟨b,off,none⟩) n n 1 c g 0 X 3 E0 cs(by rw[hcl])(fun _=>⟨rfl,_,rfl,fun j v hv=>by obtain⟨rfl,rfl⟩:=hcv j v hv;exact c0⟩)(by omega)(fun v hv=>by obtain⟨j,hj,h2⟩:=List.mem_iff_getElem.1 hv;rw[(hcv j v(by rw[List.getElem?_eq_getElem hj,h2])).2];rfl);have hlen2:(splice X 0 cs).length=n:=by rw[length_splice _ _ _(by omega)];exact hXl
 have hat2:Hid(∀ j,j<0+cs.length->(splice X 0 cs)[j]?=some(Value.int .i64 1)):=oG(fun j hj=>absurd hj(Nat.not_lt_zero _)) hca(by omega);generalize splice X 0 cs=Y at *;have hgl:Hid(g=w1.heap.size):=HG;have B2:Below w1.heap.size w1 w2:=B0.trans(by rw[<-HG.out];exact hb2);have hk1:Hid(min 1 n<=n/\(0<n->0<min 1 n)):=⟨by omega,by omega⟩
 rw[hcl,Nat.zero_add] at hat2;have hgi:goInt cs.length=.int .i64(min 1 n:Nat):=by rw[hcl];rfl
 rw[hgi] at hr2;generalize min 1 n=k1 at *;have h2:=lt_of_block hg2;clear E0 c0 hca hcv B0 hb2 hgi;go_wp2;go_loopw [8](fun v wr=>∃(k:Nat)(Y:List Value),k<=n/\v=.int .i64(k:Nat)/\(0<n->0<k)/\Y.length=n/\Hid(∀ j,j<k->Y[j]?=some(Value.int .i64 1))/\wr.heap[g]?=some(.cells Y.toArray 3(0,0))/\Below w1.heap.size w1 wr)(fun v _=>n-(intOf v).toNat)
 case atStart=>exact⟨k1,Y,hk1.out.1,rfl,hk1.out.2,hlen2,hat2,hg2,B2⟩
 case round =>
  clear hk1 hlen2 hat2 hg2 B2 hr2 hcl h2;obtain⟨k,Y,hk,rfl,hk0,hyl,hat,E1,B1⟩:=hrel;by_cases hlt:k<n
  ·have hkI:(k:Int)<(n:Int):=by omega
   have bdT:Below wr.heap.size wr wr.drew:=⟨rfl,rfl,rfl,Nat.le_refl _,fun _ _=>rfl⟩
   have Ed:wr.drew.heap[g]?=some(.cells Y.toArray 3(0,0)):=E1;obtain⟨ds,hds⟩:∃ds,ds=List.replicate(min k(n-k))(Value.int .i64 1):=⟨_,rfl⟩
   have hdl:ds.length=min k(n-k):=by rw[hds];simp
   have hda:∀ j,j<ds.length->ds[j]?=some(Value.int .i64 1):=by
    intro j hj;rw[hds,List.getElem?_replicate];rw[hdl] at hj;rw[if_pos hj]
   have hdv:∀ j v,ds[j]?=some v->j<k/\v=Value.int .i64 1:=by
    intro j v hv;rw[hds,List.getElem?_replicate] at hv;split at hv
    ·injection hv with hv
     exact⟨by omega,hv.symm⟩
    ·cases hv
   clear hds;obtain⟨w3,hr3,hg3,hb3⟩:=fC(P:=Tryz.prog)(w:=wr.drew) 35 35 3 3 Tryz.underlying35 hgs(some⟨g,k,none⟩)(some⟨g,0,none⟩)(n-k)(n-k) k n g k Y 3 Ed ds(by rw[hdl])(fun _=>⟨rfl,_,rfl,fun j v hv=>by
    obtain⟨hj,rfl⟩:=hdv j v hv;have ea:(Addr.add⟨g,0,none⟩ j)=⟨g,j,none⟩:=by simp[Addr.add];exact fun h=>h.symm
    rw[ea,cell_of_row _ _ _ _ _ _ Ed];simpa using hat.out j hj⟩)(by omega)(fun v hv=>by obtain⟨j,hj,h2⟩:=List.mem_iff_getElem.1 hv;rw[(hdv j v(by rw[List.getElem?_eq_getElem hj,h2])).2];rfl)
   have hlen3:(splice Y k ds).length=n:=by rw[length_splice _ _ _(by omega)];exact hyl
   have hat3:Hid(∀ j,j<k+ds.length->(splice Y k ds)[j]?=some(Value.int .i64 1)):=oG hat.out hda(by omega);generalize splice Y k ds=Y3 at *;have B3:Below w1.heap.size w1 w3:=(B1.trans(bdT.mono B1.size)).trans(by rw[<-HG.out];exact hb3);rw[hdl] at hat3;have hgi:goInt ds.length=.int .i64(min k(n-k):Nat):=by rw[hdl];rfl
   rw[hgi] at hr3;have hpos:0<min k(n-k):=by have:=hk0(by omega);omega
   have hle:k+min k(n-k)<=n:=by omega
   generalize min k(n-k)=d at *;clear hat hda hdv hdl hgi E1 hyl Ed;go_wp2_with fail;go_region;go_wp2;go_roundw
   case rel=>exact⟨k+d,Y3,hle,by simp,fun _=>by omega,hlen3,hat3,hg3,B3⟩
   case measure=>simp[intOf];omega
  ·have hkI:¬(k:Int)<(n:Int):=by omega
   have HR:Hid(∃g',Ending.returned(.slice(some⟨g,0,none⟩) n n)=Ending.returned(.slice(some⟨g',0,none⟩) n n)/\w1.heap.size<=g'/\wr.heap[g']?=some(.cells(List.replicate n(Value.int .i64 1)).toArray 3(0,0))/\Below w1.heap.size w1 wr):=by
    have hY:Y=List.replicate n(Value.int .i64 1):=by
     apply List.ext_getElem?;intro j;rw[List.getElem?_replicate];by_cases hj:j<n
     ·rw[if_pos hj];exact hat.out j(by omega)
     ·rw[if_neg hj];exact List.getElem?_eq_none(by omega)
    exact⟨g,rfl,by rw[HG.out];exact Nat.le_refl _,by rw[<-hY];exact E1,B1⟩
   clear hat E1 hyl B1;go_wp2;go_ret;exact HR.out
theorem uw {cells:List Int}{n:Int}{ks:Fs}{ar:Nat}{s s':Rg}(h:cT cells n ks ar s=some s'):s'.1=s.1:=by
 unfold cT at h;split at h
 ·cases h
 ·split at h
  ·cases h
  ·split at h
   ·injection h with h;subst h;rfl
   ·split at h
    ·injection h with h;subst h;rfl
    ·cases h
theorem za {pk:Int}{i ar wi:Nat}(h:ar<=wi):(aL pk i ar wi).1<=(aL pk i ar wi).2:=by
 unfold aL;split
 ·simp only;split<;>omega
 ·exact h
theorem tV {cells:List Int}{e:Ex}{ar wi:Nat}{s s':Rg}{k:Int}(hx:rgE cells e ar wi s=some (s',k))(ha:ar<=wi)(hn:-9223372036854775808<=e.n/\e.n<=9223372036854775807):okN cells.length e.k e.n e.nm e.kids.len:=by
 have hd:=kS hx;obtain⟨hg,-⟩:=dv hx;unfold gdE at hg;simp only[not_or] at hg;obtain⟨g1,g2,g3,g4⟩:=hg;refine⟨hd,fun h5=>?_,fun h26=>?_,hn⟩
 ·rw[h5] at g4;simp[nuP] at g4;omega
 ·rw[h26] at g4;simp[nuP] at g4;omega
theorem xe (cells:List Int):∀ (f:Fs) (pk:Int) (i ar wi:Nat) (s s':Rg) (kd:List Int),ar<=wi->rgF cells f pk i ar wi s=some (s',kd)->f.rng->okF cells.length f/\s'.1=s.1+f.size/\(s.1<=4096->s'.1<=4096)
 | ⟨none⟩,pk,i,ar,wi,s,s',kd,ha,h,hr=>by
  simp only[rgF] at h;injection h with h
  injection h with h1 h2
  subst h1;exact⟨trivial,rfl,id⟩
 | ⟨some⟨k,n,nm,a,ks,r⟩⟩,pk,i,ar,wi,s,s',kd,ha,h,hr=>by
  have h0:rgF cells⟨some⟨k,n,nm,a,ks,r⟩⟩ pk i ar wi s=_:=eI cells⟨k,n,nm,a,ks⟩ r pk i ar wi s;rw[h0] at h;cases hx:rgE cells⟨k,n,nm,a,ks⟩(aL pk i ar wi).1(aL pk i ar wi).2 s with
  | none=>rw[hx] at h;cases h
  | some z =>
   obtain⟨s2,k2⟩:=z;rw[hx] at h;simp only at h;cases hq:rgF cells r pk(i+1) ar wi s2 with
   | none=>rw[hq] at h;cases h
   | some z =>
    obtain⟨s3,rest⟩:=z;rw[hq] at h;injection h with h
    injection h with h1 h2
    subst h1;have hsp:=za(pk:=pk)(i:=i) ha;have hnd:=tV hx hsp⟨hr.1,hr.2.1⟩;obtain⟨hg,s1,kd1,hk,hl,hf1,hf2,hk2,h6⟩:=dv hx;simp only at hk hnd h6;obtain⟨a1,a2,a3⟩:=xe cells ks k 0 _ _ _ _ _ hsp hk hr.2.2.1;obtain⟨b1,b2,b3⟩:=xe cells r pk(i+1) ar wi _ _ _ ha hq hr.2.2.2;have hs2:s2.1=s1.1:=by
     split at h6
     ·exact uw h6
     ·injection h6 with h6;rw[h6]
    have hsz:(⟨some⟨k,n,nm,a,ks,r⟩⟩:Fs).size=ks.size+r.size+1:=rfl;unfold gdE at hg;simp only[not_or] at hg;refine⟨⟨hnd,a1,b1⟩,?_,fun hs=>?_⟩
    ·rw[hsz,b2,hs2,a2];simp only;omega
    ·exact b3(by rw[hs2];exact a3(by simp only;omega))
theorem pG {cells:List Int}{e:Ex}(h:bO cells e≠0)(hn:-9223372036854775808<=e.n/\e.n<=9223372036854775807)(hr:e.kids.rng):okE cells.length e/\e.kids.size+1<=4096/\cells.length<=256/\∀ c,c ∈ cells->0<=c/\c<=4:=by
 obtain⟨h1,h2,s,hx,-⟩:=jP h;have hnd:=tV hx(Nat.le_refl 0) hn;obtain⟨hg,s1,kd1,hk,-,-,-,-,-⟩:=dv hx;obtain⟨a1,a2,a3⟩:=xe cells e.kids e.k 0 0 0 _ _ _(Nat.le_refl 0) hk hr;have h4:=a3(by simp);rw[a2] at h4;simp only at h4;exact⟨⟨hnd,a1⟩,by omega,h1,h2⟩
structure iz (w:World):Prop where
 tab:Tab w
 bar:∀ k:Nat,k<25->w.cell?⟨0,k,none⟩=some(.int .i64([0,0,0,0,0,0,4,5,6,7,8,9,10,0,0,0,0,0,0,0,0,0,20,0,22].getD k 0))
 lt:0<w.heap.size
theorem iz.below {w w':World}(h:iz w)(b:Below w.heap.size w w'):iz w':=⟨h.tab.below b,fun k hk=>(b.cell (p:=⟨0,k,none⟩) h.lt).trans (h.bar k hk),Nat.lt_of_lt_of_le h.lt b.size⟩
abbrev o00:Nat->Nat:=fun _=>0
theorem pB (cv:Value)(cells:List Int)(w:World)(hcl:cells.length<=256)(hc:InA w cv cells) :
  Calls Tryz.prog 45 #[cv] w fun e w'=>∃rb o',e=.returned(pt0 rb)/\EmW w' o' rb cv(em0 cells)/\Below w.heap.size w w'/\∀ k,k<w.heap.size->o' k=0:=by
 obtain⟨ao,cap,rfl,-⟩:=hc;obtain⟨w1,hw1⟩:∃w1,w1=w.alloc(.cells #[.int .i64 1] 3):=⟨_,rfl⟩
 obtain⟨g,hg⟩:∃g,g=w.heap.size:=⟨_,rfl⟩
 have B1:Below g w w1:=by rw[hw1,hg];exact b1 _ _
 have C1:w1.cell?⟨g,0,none⟩=some(.int .i64 1):=bD(by rw[hw1,hg];exact heap_alloc_new _ _);have L1:g<w1.heap.size:=by rw[hw1,hg];simp
 have HR:=uQ w1 g 0 1 cells.length(by omega) L1 C1;have HG:=Lib.hid hg;clear hg;go_enter Tryz.func45,Tryz.ntmps45;go_wp2_with fail;rw[<-hw1,<-HG.out];clear hw1;refine HR.mono ?_;rintro e w2⟨gk,rfl,hgk,K2,B2⟩;clear HR;obtain⟨r,hr⟩:∃r,r=w2.heap.size:=⟨_,rfl⟩
 obtain⟨w5,hw5⟩:∃w5,w5=((w2.alloc(.map #[] 0)).alloc(.map #[] 0)).alloc(.cells #[.slice none 0 0,.slice none 0 0,.slice none 0 0,.slice(some⟨gk,0,none⟩) cells.length cells.length,.map(some r),.map(some(r+1)),.slice ao cells.length cap,.int .i64 0] 95):=⟨_,rfl⟩
 obtain⟨z1,z2,z3,z4,z5⟩:=al3 w2(.map #[] 0)(.map #[] 0)(.cells #[.slice none 0 0,.slice none 0 0,.slice none 0 0,.slice(some⟨gk,0,none⟩) cells.length cells.length,.map(some r),.map(some(r+1)),.slice ao cells.length cap,.int .i64 0] 95);rw[<-hw5,<-hr] at z1 z2 z3 z4 z5;have hgr:gk<r:=by rw[hr];exact lt_of_block K2
 have hgw:g<gk:=by omega
 have HF:Hid(∃rb o',Ending.returned(.pointer(some⟨r+2,0,none⟩))=.returned(pt0 rb)/\EmW w5 o' rb(.slice ao cells.length cap)(em0 cells)/\Below w.heap.size w w5/\∀ k,k<w.heap.size->o' k=0):=by
  obtain⟨o',ho'⟩:∃o':Nat->Nat,o'=fun k=>if k=r+2 then 1 else if k=gk then 5 else if k=r then 6 else if k=r+1 then 7 else 0:=⟨_,rfl⟩
  have l1:o'(r+2)=1:=by rw[ho'];simp
  have l5:o' gk=5:=by rw[ho'];show(if gk=r+2 then 1 else if gk=gk then 5 else _)=5;rw[if_neg(by omega),if_pos rfl]
  have l6:o' r=6:=by rw[ho'];show(if r=r+2 then 1 else if r=gk then 5 else if r=r then 6 else _)=6;rw[if_neg(by omega),if_neg(by omega),if_pos rfl]
  have l7:o'(r+1)=7:=by rw[ho'];show(if r+1=r+2 then 1 else if r+1=gk then 5 else if r+1=r then 6 else if r+1=r+1 then 7 else 0)=7;rw[if_neg(by omega),if_neg(by omega),if_neg(by omega),if_pos rfl]
  have B25:Below r w2 w5:=z5;refine⟨r+2,o',rfl,⟨fun x hx=>by simp[em0] at hx,fun x hx=>by simp[em0] at hx,fun x hx=>by simp[em0] at hx,_,_,_,_,r,r+1,⟨z3,l1⟩,Row.nil _ _ _ _ _,Row.nil _ _ _ _ _,Row.nil _ _ _ _ _,?_,?_,?_⟩,?_,fun k hk=>?_⟩
  ·have hK:w5.heap[gk]?=_:=(B25.block gk hgr).trans K2;have e1:(em0 cells).ks.length=cells.length:=by simp[em0]
   have e2:eiV(em0 cells).ks=List.replicate cells.length(Value.int .i64 1):=by simp[eiV,em0]
   rw[e1,e2];refine⟨⟨by simp,.inr⟨gk,cells.length,_,rfl,Nat.zero_le _,hK,Nat.le_refl _,by unfold maxLen;omega,by simp,by simp⟩⟩,fun k hk=>?_⟩;simp[Value.ownBlock] at hk;rw[<-hk];exact l5
  ·obtain⟨D,q1,q2,q3,q4⟩:=MpC.made w2 o00 6;rw[<-hr] at q1;exact⟨D,ie q1(aa.ofBelow(I:=fun _=>False)(w:=w2.alloc(.map #[] 0))(w':=w5) o00(by rw[hw5];exact((Below.refl _ _).alloc(Nat.le_refl _) _).alloc(by simp) _)) id,q2,l6,q4⟩
  ·obtain⟨D,q1,q2,q3,q4⟩:=MpS.made(w2.alloc(.map #[] 0)) o00 7;have e:(w2.alloc(.map #[] 0)).heap.size=r+1:=by rw[hr];simp
   rw[e] at q1;exact⟨D,ie q1(aa.ofBelow(I:=fun _=>False)(w':=w5) o00(by rw[hw5];exact b1 _ _)) id,q2,l7,q4⟩
  ·rw[<-HG.out];exact(B1.trans(B2.mono(Nat.le_of_lt L1))).trans(B25.mono(by omega))
  ·rw[<-HG.out] at hk;rw[ho']
   show(if k=r+2 then 1 else if k=gk then 5 else if k=r then 6 else if k=r+1 then 7 else 0)=0
   rw[if_neg(by omega),if_neg(by omega),if_neg(by omega),if_neg(by omega)]
 have hmm:=@run_makeMap Tryz.prog;have HR:=Lib.hid hr;clear z1 z2 z3 z4 z5 K2 B2 B1 C1 hr;rw[HR.out] at hw5 HF;go_wp2;rw[<-hw5];clear hw5;go_ret;exact HF.out
abbrev eG:Array Value:=#[.slice none 0 0,.slice none 0 0,.slice none 0 0,.slice none 0 0]
structure EmC (w:World)(o:Nat->Nat)(s:Em)(vw vc vn vk:Value):Prop where
 ok:∀ x ∈ s.ws,x.ok
 ci:∀ n ∈ s.cs,-9223372036854775808<=n/\n<=9223372036854775807
 ni:∀ x ∈ s.ns,x.length<=maxLen
 ws:Row w o 2 54 1 vw s.ws.length(woV s.ws)
 cs:Row w o 3 3 1 vc s.cs.length(eiV s.cs)
 ns:Row w o 4 9 1 vn s.ns.length(esV s.ns)
 ks:Row w o 5 3 1 vk s.ks.length(eiV s.ks)
def nB (w:World)(e:Ex)(cells:List Int)(z:Ending)(w':World):Prop :=
 Below w.heap.size w w'/\((bO cells e=0/\z=.returned(.tuple #[.agg eG,.int .i64 140])) \/
  (bO cells e≠0/\(32768<(emA cells e).ws.length\/1024<(emA cells e).dp)/\z=.returned(.tuple #[.agg eG,.int .i64 190])) \/
  (bO cells e≠0/\(emA cells e).ws.length<=32768/\(emA cells e).dp<=1024/\(emA cells e).mes<=100000000/\∃vw vc vn vk o',z=.returned(.tuple #[.agg #[vw,vc,vn,vk],.int .i64 0])/\(∀ k,k<w.heap.size->o' k=0)/\EmC w' o'(emA cells e) vw vc vn vk))
theorem Di {w w':World}{o':Nat->Nat}{cv:Value}{cells:List Int}(h:iz w)(hc:InA w cv cells)(B:Below w.heap.size w w')(ho:∀ k,k<w.heap.size->o' k=0):EmX w' o' cv cells:=by
 have h':=h.below B;obtain⟨ao,cap,hv,hx⟩:=hc;refine⟨h'.tab,ho _ h.tab.2.2.2.2.2.2,h'.bar,⟨ho _ h.lt,h'.lt⟩,ao,cap,hv,?_⟩;rcases hx with hx|⟨b,off,h1,h2,h3,h4⟩
 ·exact .inl hx
 ·exact .inr⟨b,off,h1,ho b h3,Nat.lt_of_lt_of_le h3 B.size,fun j x hj=>(B.cell(p:=⟨b,off+j,none⟩) h3).trans(h4 j x hj)⟩
theorem dk {w:World}{b:Nat}{x0 x1 x2 x3 x4:Value}{t:TypeId}(h:w.heap[b]?=some (.cells #[x0,x1,x2,x3,x4] t)):w.cell? ⟨b,0,none⟩=some x0/\w.cell? ⟨b,1,none⟩=some x1/\w.cell? ⟨b,2,none⟩=some x2/\w.cell? ⟨b,3,none⟩=some x3/\w.cell? ⟨b,4,none⟩=some x4:=by
 refine⟨?_,?_,?_,?_,?_⟩<;>simp[World.cell?,h]
theorem mm {w:World}{b:Nat}{x0 x1 x2 x3:Value}{t:TypeId}(y0 y1 y2 y3:Value)(h:w.heap[b]?=some (.cells #[x0,x1,x2,x3] t)):((((w.setCell ⟨b,0,none⟩ y0).setCell ⟨b,1,none⟩ y1).setCell ⟨b,2,none⟩ y2).setCell ⟨b,3,none⟩ y3).heap[b]?=some (.cells #[y0,y1,y2,y3] t) :=
 heap_setCell_same _ b 3 _ _ _(heap_setCell_same _ b 2 _ _ _(heap_setCell_same _ b 1 _ _ _(heap_setCell_same w b 0 _ _ _ h)))
theorem yV (e:Ex)(ao:Option Addr)(cap:Nat)(cv:Value)(cells:List Int)(w:World)(hf:cr e)(hn:-9223372036854775808<=e.n/\e.n<=9223372036854775807)(hr:e.kids.rng)(hW:Wd w)(hT:iz w)(hc:InA w cv cells)(hcl:cells.length<=1000000000)(S:SnA w e.kids ao) :
  Calls Tryz.prog 18 #[plV e ao cap cv] w(nB w e cells):=by
 obtain⟨g,hg⟩:∃g,g=w.heap.size:=⟨_,rfl⟩
 obtain⟨w1,hw1⟩:∃w1,w1=(w.alloc(.cells #[.int .i64 e.k,.int .i64 e.n,stv e.nm,.slice ao e.kids.len cap,cv] 37)).alloc(.cells eG 42):=⟨_,rfl⟩
 obtain⟨z1,z2,z3,z4⟩:=al2 w(.cells #[.int .i64 e.k,.int .i64 e.n,stv e.nm,.slice ao e.kids.len cap,cv] 37)(.cells eG 42);rw[<-hw1,<-hg] at z1 z2 z3 z4;have B1:Below w.heap.size w w1:=by rw[<-hg];exact z4
 have HC:=xX e ao cap cv cells w1 hf(hW.below B1)(hc.below B1) hcl(SnA.below S B1);have hcv:=hc;obtain⟨ac,cc,rfl,-⟩:=hcv;rw[bZ] at HC ⊢;have HG:=Lib.hid hg;clear hg;obtain⟨c0,c1,c2,c3,c4⟩:=dk z1;by_cases hk:bO cells e=0
 ·rw[decide_eq_false(by simp[hk])] at HC;have HK:=Lib.hid hk;clear hk;go_enter Tryz.func18,Tryz.ntmps18;go_upto_region 1 with fail;rw[<-hw1,<-HG.out];clear hw1;go_upto_region 2 with(first|(go_at_call 44;refine HC.mono ?_;rintro z w2⟨rfl,B2⟩))
  have GZ:=(B2.block(g+1)(by omega)).trans z2;obtain⟨⟨d0,d1,d2,d3⟩,df⟩:=ai GZ;have df0:=df 0;have df1:=df 1;have df2:=df 2;have df3:=df 3;have BZ:Below g w w2:=z4.trans(B2.mono(by omega));have ZE:=mm(.slice none 0 0)(.slice none 0 0)(.slice none 0 0)(.slice none 0 0) GZ;have hle:g<=g+1:=by omega
  have BE:=(((BZ.setCell(p:=⟨g+1,0,none⟩) hle(.slice none 0 0)).setCell(p:=⟨g+1,1,none⟩) hle(.slice none 0 0)).setCell(p:=⟨g+1,2,none⟩) hle(.slice none 0 0)).setCell(p:=⟨g+1,3,none⟩) hle(.slice none 0 0);obtain⟨⟨m0,m1,m2,m3⟩,-⟩:=ai ZE;have HBE:=Lib.hid BE;clear ZE BE GZ BZ HC z1 z2 z3 z4 B1 B2 c0 c1 c2 c3 c4;go_wp2;exact bodyPost_ret(v:=.tuple #[.agg eG,.int .i64 140])(by simp[results,Tryz.results18,go_sem,m0,m1,m2,m3]) rfl⟨by rw[<-HG.out];exact HBE.out,.inl⟨HK.out,rfl⟩⟩
 ·rw[decide_eq_true hk] at HC;obtain⟨hok,hsz,hnc,hcb⟩:=pG hk hn hr;have HK:=Lib.hid hk;clear hk;go_enter Tryz.func18,Tryz.ntmps18;go_upto_region 1 with fail;rw[<-hw1,<-HG.out];clear hw1;go_upto_region 3 with(first|(go_at_call 44;refine HC.mono ?_;rintro z w2⟨rfl,B2⟩))
  have B12:Below w.heap.size w w2:=B1.trans(B2.mono B1.size);have y1:=(B2.block g(by omega)).trans z1;have y2:=(B2.block(g+1)(by omega)).trans z2;have L2:g+2<=w2.heap.size:=by rw[<-z3];exact B2.size
  have HN:=pB _ cells w2 hnc(hc.below B12);clear c0 c1 c2 c3 c4 HC;obtain⟨c0,c1,c2,c3,c4⟩:=dk y1;go_upto_region 4 with(first|(go_at_call 45;refine HN.mono ?_;rintro z w3⟨rb,o3,rfl,E3,B3,ho3⟩))
  have X3:=Di(hT.below B12)(hc.below B12) B3 ho3;have SN3:SnO w3 o3 e.kids ao:=(SnA.below S B12).mono(fun k _ hl=>B3.block k hl) B3.size(fun k _ hl=>ho3 k hl);have b3p:Blk w3 o3 0 g(.cells #[.int .i64 e.k,.int .i64 e.n,stv e.nm,.slice ao e.kids.len cap,.slice ac cells.length cc] 37):=⟨(B3.block g(by omega)).trans y1,ho3 g(by omega)⟩
  have b3r:Blk w3 o3 0(g+1)(.cells eG 42):=⟨(B3.block(g+1)(by omega)).trans y2,ho3(g+1)(by omega)⟩
  have hm0:(em0 cells).mes=0:=rfl;have hk0:(em0 cells).ks.length=cells.length:=by simp[em0]
  have HP:=pO cells.length(e.kids.size+1) e ao cap 0 0 w3 o3 rb _ cells(em0 cells)(by omega) hok rfl hnc SN3 hk0(by rw[hm0];omega)(by omega)(by omega)(by show 0<=_;omega) X3 E3;rw[ah] at HP;have BW:Below g w w3:=(by rw[<-HG.out] at B12;exact B12.trans(B3.mono(by omega)))
  clear c0 c1 c2 c3 c4 HN;obtain⟨c0,c1,c2,c3,c4⟩:=dk b3p.1;go_upto_region 5 with(first|(go_at_call 46;refine HP.mono ?_;rintro z w4⟨rfl,⟨o4,E4,S4⟩,g4⟩))
  have X4:=X3.step S4 aA;have HL:=bW 0 0 0 w4 o4 rb _ cells(emE cells e 0 0(em0 cells))(by omega)(by omega)(by omega)(by have:=g4.mes;rw[hm0] at this;omega) X4 E4;go_upto_region 6 with(first|(go_at_call 47;refine HL.mono ?_;rintro z w5⟨rfl,o5,E5,S5⟩))
  have heq:(emE cells e 0 0(em0 cells)).lay 0 0 0=emA cells e:=rfl;rw[heq] at E5;have hmes:(emA cells e).mes<=100000000:=by
   rw[<-heq,Em.mes_lay]
   have:=g4.mes
   rw[hm0] at this;omega
  have HMES:=Lib.hid hmes;have S35:=S4.trans S5;have b5r:=b3r.step S35 aA;have ho5:∀ k,k<w.heap.size->o5 k=0:=fun k hk2=>by
   have hg:=HG.out;have hb:=BW.size;rw[S35.lab k(by have:=B3.size;omega)];exact ho3 k(by omega)
  have B5:Below g w w5:=BW.trans⟨S35.os,S35.tape,S35.output,S35.size,fun k hk2=>S35.block k(by have:=B3.size;omega)(by rw[ho3 k(by omega)];exact aA)⟩;obtain⟨h1,h2,h3,vw,vc,vn,vk,mc,mn,q0,q1,q2,q3,q4,q5,q6⟩:=E5;obtain⟨⟨t0,t1,t2,t3,t4,t5,t6,t7⟩,-⟩:=dY q0.1;obtain⟨⟨d0,d1,d2,d3⟩,df⟩:=ai b5r.1;have df0:=df 0;have df1:=df 1;have df2:=df 2;have df3:=df 3;have hle:g<=g+1:=by omega
  obtain⟨aw,cw,rfl⟩:=q1.form;obtain⟨ac2,cc2,rfl⟩:=q2.form;obtain⟨an,cn,rfl⟩:=q3.form;obtain⟨ak,ck,rfl⟩:=q4.form;by_cases hA:32768<(emA cells e).ws.length
  ·have hAI:(32768:Int)<((emA cells e).ws.length:Int):=by omega
   have ZE:=mm(.slice none 0 0)(.slice none 0 0)(.slice none 0 0)(.slice none 0 0) b5r.1;have BE:=(((B5.setCell(p:=⟨g+1,0,none⟩) hle(.slice none 0 0)).setCell(p:=⟨g+1,1,none⟩) hle(.slice none 0 0)).setCell(p:=⟨g+1,2,none⟩) hle(.slice none 0 0)).setCell(p:=⟨g+1,3,none⟩) hle(.slice none 0 0);obtain⟨⟨m0,m1,m2,m3⟩,-⟩:=ai ZE;have HBE:=Lib.hid BE;have HA:=Lib.hid hA;clear ZE BE B5 b3r b3p b5r q1 q2 q3 q4 q5 q6 X3 X4 S35 SN3 E3 E4 BW HP HL B3 B12 y1 y2 B1 B2 z1 z2 z4 hT hW S hc;go_wp2;exact bodyPost_ret(v:=.tuple #[.agg eG,.int .i64 190])(by simp[results,Tryz.results18,go_sem,m0,m1,m2,m3]) rfl⟨by rw[<-HG.out];exact HBE.out,.inr(.inl⟨HK.out,.inl HA.out,rfl⟩)⟩
  ·have hAI:¬(32768:Int)<((emA cells e).ws.length:Int):=by omega
   by_cases hB:1024<(emA cells e).dp
   ·have hBI:(1024:Int)<((emA cells e).dp:Int):=by omega
    have ZE:=mm(.slice none 0 0)(.slice none 0 0)(.slice none 0 0)(.slice none 0 0) b5r.1;have BE:=(((B5.setCell(p:=⟨g+1,0,none⟩) hle(.slice none 0 0)).setCell(p:=⟨g+1,1,none⟩) hle(.slice none 0 0)).setCell(p:=⟨g+1,2,none⟩) hle(.slice none 0 0)).setCell(p:=⟨g+1,3,none⟩) hle(.slice none 0 0);obtain⟨⟨m0,m1,m2,m3⟩,-⟩:=ai ZE;have HBE:=Lib.hid BE;have HA:=Lib.hid hB;clear ZE BE B5 b3r b3p b5r q1 q2 q3 q4 q5 q6 X3 X4 S35 SN3 E3 E4 BW HP HL B3 B12 y1 y2 B1 B2 z1 z2 z4 hT hW S hc;go_wp2;exact bodyPost_ret(v:=.tuple #[.agg eG,.int .i64 190])(by simp[results,Tryz.results18,go_sem,m0,m1,m2,m3]) rfl⟨by rw[<-HG.out];exact HBE.out,.inr(.inl⟨HK.out,.inr HA.out,rfl⟩)⟩
   ·have hBI:¬(1024:Int)<((emA cells e).dp:Int):=by omega
    have ZE:=mm(.slice aw(emA cells e).ws.length cw)(.slice ac2(emA cells e).cs.length cc2)(.slice an(emA cells e).ns.length cn)(.slice ak(emA cells e).ks.length ck) b5r.1;have BE:=(((B5.setCell(p:=⟨g+1,0,none⟩) hle(.slice aw(emA cells e).ws.length cw)).setCell(p:=⟨g+1,1,none⟩) hle(.slice ac2(emA cells e).cs.length cc2)).setCell(p:=⟨g+1,2,none⟩) hle(.slice an(emA cells e).ns.length cn)).setCell(p:=⟨g+1,3,none⟩) hle(.slice ak(emA cells e).ks.length ck);have SE:aa(fun k=>k=0) w5 o5((((w5.setCell⟨g+1,0,none⟩(.slice aw(emA cells e).ws.length cw)).setCell⟨g+1,1,none⟩(.slice ac2(emA cells e).cs.length cc2)).setCell⟨g+1,2,none⟩(.slice an(emA cells e).ns.length cn)).setCell⟨g+1,3,none⟩(.slice ak(emA cells e).ks.length ck)) o5:=((((aa.refl _ w5 o5).setCell⟨g+1,0,none⟩ _ b5r.2).setCell⟨g+1,1,none⟩ _ b5r.2).setCell⟨g+1,2,none⟩ _ b5r.2).setCell⟨g+1,3,none⟩ _ b5r.2;obtain⟨⟨m0,m1,m2,m3⟩,-⟩:=ai ZE;have HBE:=Lib.hid BE;have HA:=Lib.hid(show(emA cells e).ws.length<=32768/\(emA cells e).dp<=1024 by omega);have HCE:=Lib.hid(show EmC _ o5(emA cells e) _ _ _ _ from⟨h1,h2,h3,q1.step SE(by decide),q2.step SE(by decide),q3.step SE(by decide),q4.step SE(by decide)⟩);have HO5:=Lib.hid ho5;clear ZE BE SE B5 b3r b3p b5r q1 q2 q3 q4 q5 q6 X3 X4 S35 SN3 E3 E4 BW HP HL B3 B12 y1 y2 B1 B2 z1 z2 z4 hT hW S hc ho5 hA hB;go_wp2;exact bodyPost_ret(v:=.tuple #[.agg #[.slice aw(emA cells e).ws.length cw,.slice ac2(emA cells e).cs.length cc2,.slice an(emA cells e).ns.length cn,.slice ak(emA cells e).ks.length ck],.int .i64 0])(by simp[results,Tryz.results18,go_sem,m0,m1,m2,m3]) rfl⟨by rw[<-HG.out];exact HBE.out,.inr(.inr⟨HK.out,HA.out.1,HA.out.2,HMES.out,_,_,_,_,o5,rfl,HO5.out,HCE.out⟩)⟩
def awE:List UInt8:=[99,111,117,110,116,32,118,32,105,110,32,102,101,119,58,32,118,32,61,32,64,49]
def ym:Fs->Bool
 | ⟨none⟩=>true
 | ⟨some⟨_,n,_,_,ks,r⟩⟩=>decide(-9223372036854775808<=n)&&(decide(n<=9223372036854775807)&&(ym ks&&ym r))
theorem oI:∀ {f:Fs},ym f=true->f.rng
 | ⟨none⟩,_=>trivial
 | ⟨some⟨k,n,nm,a,ks,r⟩⟩,h=>by
  simp only[ym,Bool.and_eq_true,decide_eq_true_eq] at h;exact⟨h.1,h.2.1,oI h.2.2.1,oI h.2.2.2⟩
def Cg (l:List UInt8):Bool:=match dZ l with
 | ⟨some(.inr(x,_))⟩=>decide((md x).2.1=0)&&(decide(bO [](ofE x [])≠0)&&(ym(one(ofE x []))&&(decide((emA [](ofE x [])).ws.length=11)&&(decide((emA [](ofE x [])).dp<=1024)&&(decide((emA [](ofE x [])).cs=[0,1])&&decide((emA [](ofE x [])).ns=[[102,101,119]]))))))
 | _=>false
theorem aw_e:Cg awE=true:=by kernel_rfl
theorem ug {l:List UInt8}(h:Cg l=true):∃x t,dZ l=.ok x t/\(md x).2.1=0/\bO [] (ofE x [])≠0/\(one (ofE x [])).rng/\(emA [] (ofE x [])).ws.length=11/\(emA [] (ofE x [])).dp<=1024/\(emA [] (ofE x [])).cs=[0,1]/\(emA [] (ofE x [])).ns=[[102,101,119]]:=by
 unfold Cg at h;cases hp:dZ l using Rs.on with
 | out=>rw[hp] at h;cases h
 | bad e a=>rw[hp] at h;cases h
 | ok x t =>
  rw[hp] at h;simp only[Rs.ok,Bool.and_eq_true,decide_eq_true_eq] at h;exact⟨x,t,rfl,h.1,h.2.1,oI h.2.2.1,h.2.2.2.1,h.2.2.2.2.1,h.2.2.2.2.2.1,h.2.2.2.2.2.2⟩
theorem gu.okE {w w':World}{e:Ex}{x:Ending}(h:gu w e x w')(ht:(md e).2.1=0):∃ay cy,x=.returned (.tuple #[plV (ofE e []) ay cy (.slice none 0 0),.int .i64 0])/\SlN w' (Nw w.heap.size) (ofE e []).kids ay/\Below w.heap.size w w':=by
 unfold gu at h;rw[if_pos ht] at h;exact h
theorem nB.yes {w w':World}{e:Ex}{cells:List Int}{z:Ending}(h:nB w e cells z w')(hk:bO cells e≠0)(h1:(emA cells e).ws.length<=32768)(h2:(emA cells e).dp<=1024):Below w.heap.size w w'/\∃vw vc vn vk o',z=.returned (.tuple #[.agg #[vw,vc,vn,vk],.int .i64 0])/\(∀ k,k<w.heap.size->o' k=0)/\EmC w' o' (emA cells e) vw vc vn vk:=by
 obtain⟨B,h|h|h⟩:=h
 ·exact absurd h.1 hk
 ·rcases h.2.1 with h3|h3<;>omega
 ·exact⟨B,h.2.2.2.2⟩
theorem yU (w:World)(hW:Wd w)(hT:iz w):Calls Tryz.prog 15 #[] w fun e w'=>e=.returned (.bool true)/\Below w.heap.size w w':=by
 obtain⟨x,t,hx,ht,hk,hrg,hw11,hdp,hcs,hns⟩:=ug aw_e;have hok:=uC hx;have c1:=Br⟨awE.toArray⟩ w(by decide);have e1:(ByteArray.mk awE.toArray).data.toList=awE:=by simp
 rw[e1,hx] at c1;have hfp:cr(ofE x []):=⟨Dt x [] hok.fit.nm,Nat.le_trans(zZ x []) hok.fit.len,vI x [] hok.fit.sh⟩
 clear e1 hx;go_enter Tryz.func15,Tryz.ntmps15;go_wp2_with fail;refine c1.mono ?_;rintro e w1⟨aox,capx,rfl,S1,b1⟩;clear c1;have b2:Below w1.heap.size w1(w1.alloc(.cells #[.int .i64 x.k,.int .i64 x.n,stv x.nm,.slice aox x.kids.len capx,.int .i64 x.a] 25)):=(Below.refl _ w1).alloc(Nat.le_refl _) _;have X2:(w1.alloc(.cells #[.int .i64 x.k,.int .i64 x.n,stv x.nm,.slice aox x.kids.len capx,.int .i64 x.a] 25)).heap[w1.heap.size]?=some(.cells #[.int .i64 x.k,.int .i64 x.n,stv x.nm,.slice aox x.kids.len capx,.int .i64 x.a] 25(0,0)):=heap_alloc_new w1 _;have B2:=b1.trans(b2.mono b1.size);have S2:SlT(w1.alloc(.cells #[.int .i64 x.k,.int .i64 x.n,stv x.nm,.slice aox x.kids.len capx,.int .i64 x.a] 25)) x.kids aox:=SlT.below(Sl.all S1) b2;rw[aq];go_upto_region 2 with fail;generalize w1.alloc(.cells #[.int .i64 x.k,.int .i64 x.n,stv x.nm,.slice aox x.kids.len capx,.int .i64 x.a] 25)=w2 at *;generalize w1.heap.size=bx at *;have c3:=Cp x aox capx w2 hok.fit(by have:=hok.size;omega) S2;rw[aq] at c3;obtain⟨p0,p1,p2,p3,p4,pf⟩:=am X2;go_wp2_with fail;refine c3.mono ?_;intro e w3 h3;have h3:=h3.okE ht;clear c3;generalize ofE x []=p at *;obtain⟨ap,cp,rfl,S3,b3⟩:=h3;have B3:=B2.trans(b3.mono B2.size);clear p0 p1 p2 p3 p4 pf b1 b2 b3 B2 S2 X2 S1 hok ht;have b4:Below w3.heap.size w3(w3.alloc(.cells #[.int .i64 p.k,.int .i64 p.n,stv p.nm,.slice ap p.kids.len cp,.slice none 0 0] 37)):=(Below.refl _ w3).alloc(Nat.le_refl _) _;have X4:(w3.alloc(.cells #[.int .i64 p.k,.int .i64 p.n,stv p.nm,.slice ap p.kids.len cp,.slice none 0 0] 37)).heap[w3.heap.size]?=some(.cells #[.int .i64 p.k,.int .i64 p.n,stv p.nm,.slice ap p.kids.len cp,.slice none 0 0] 37(0,0)):=heap_alloc_new w3 _;have B4:=B3.trans(b4.mono B3.size);have S4:=SnA.below S3.all b4;rw[bZ];go_upto_region 3 with fail;generalize w3.alloc(.cells #[.int .i64 p.k,.int .i64 p.n,stv p.nm,.slice ap p.kids.len cp,.slice none 0 0] 37)=w4 at *;generalize w3.heap.size=bp at *;have c5:=yV p ap cp(.slice none 0 0) [] w4 hfp⟨hrg.1,hrg.2.1⟩ hrg.2.2.1(hW.below B4)(hT.below B4)⟨none,0,rfl,.inl rfl⟩(by simp) S4;rw[bZ] at c5;obtain⟨p0,p1,p2,p3,p4,pf⟩:=am X4;go_wp2_with fail;refine c5.mono ?_;intro e w5 h5;obtain⟨B5',vw,vc,vn,vk,o5,rfl,-,C5⟩:=h5.yes hk(by omega) hdp;clear c5 h5;have B5:=B4.trans(B5'.mono B4.size);obtain⟨aw,cw,rfl⟩:=C5.ws.form;obtain⟨ak,ck,rfl⟩:=C5.ks.form;have Rc:=C5.cs;have Rn:=C5.ns;rw[hcs] at Rc;rw[hns] at Rn;rw[hw11];obtain⟨gc,cc,rfl,-,-,-,hlc,hcc,-⟩:=Rc.pos(by decide);obtain⟨gn,cn,rfl,-,-,-,hln,hcn,-⟩:=Rn.pos(by decide);have d1:w5.cell?⟨gc,1,none⟩=some(.int .i64 1):=hcc 1(by decide);have d2:w5.cell?⟨gn,0,none⟩=some(.string⟨#[102,101,119]⟩):=hcn 0(by decide);generalize(emA [] p).ks.length=lk at *;obtain⟨w6,hw6⟩:∃w6,w6=w5.alloc(.cells #[.slice aw 11 cw,.slice(some⟨gc,0,none⟩) 2 cc,.slice(some⟨gn,0,none⟩) 1 cn,.slice ak lk ck] 42):=⟨_,rfl⟩
 have b6:Below w5.heap.size w5 w6:=by rw[hw6];exact b1 _ _
 have X6:w6.heap[w5.heap.size]?=some(.cells #[.slice aw 11 cw,.slice(some⟨gc,0,none⟩) 2 cc,.slice(some⟨gn,0,none⟩) 1 cn,.slice ak lk ck] 42):=by rw[hw6];exact heap_alloc_new w5 _
 have B6:=B5.trans(b6.mono B5.size);have d1':=(b6.cell(p:=⟨gc,1,none⟩) hlc).trans d1;have d2':=(b6.cell(p:=⟨gn,0,none⟩) hln).trans d2;obtain⟨⟨m0,m1,m2,m3⟩,-⟩:=ai X6;clear d1 d2 b6 B5 hcc hcn Rc Rn C5 p0 p1 p2 p3 p4 pf X4 X6 B5' B4 S4 hcs hns hw11 hdp hk;go_upto_region 4 with fail;rw[<-hw6];clear hw6;generalize w5.heap.size=bq at *;go_wp2;go_ret;exact⟨rfl,B6⟩
structure Inv (s:Em):Prop where
 nc:s.cs.Nodup
 nn:s.ns.Nodup
 wc:∀ x ∈ s.ws,(x.op=1\/x.op=2)->x.a<s.cs.length
 wn:∀ x ∈ s.ws,x.op=21->x.a<s.ns.length
 uc:∀ i,i<s.cs.length->∃x ∈ s.ws,(x.op=1\/x.op=2)/\x.a=i
 un:∀ i,i<s.ns.length->∃x ∈ s.ws,x.op=21/\x.a=i
structure Pre (s s':Em):Prop where
 at1:∀ i,i<s.ws.length->s'.ws[i]?=s.ws[i]?
 len:s.ws.length<=s'.ws.length
 ks:s'.ks.length=s.ks.length
theorem Pre.refl (s:Em):Pre s s:=⟨fun _ _=>rfl,Nat.le_refl _,rfl⟩
theorem Pre.trans {a b c:Em}(h:Pre a b)(k:Pre b c):Pre a c:=⟨fun i hi=>(k.at1 i (Nat.lt_of_lt_of_le hi h.len)).trans (h.at1 i hi),Nat.le_trans h.len k.len,k.ks.trans h.ks⟩
def Gd (f:Em->Em):Prop:=∀ s,Inv s->Inv (f s)/\Pre s (f s)
theorem Gd.id:Gd (fun s=>s):=fun s h=>⟨h,Pre.refl s⟩
theorem Gd.comp {f g:Em->Em}(hf:Gd f)(hg:Gd g):Gd (fun s=>g (f s)):=fun s h=>⟨(hg _ (hf s h).1).1,(hf s h).2.trans (hg _ (hf s h).1).2⟩
theorem sR (s:Em)(op a b:Nat):Pre s (s.lay op a b):=⟨fun i hi=>by simp only[Em.lay];exact List.getElem?_append_left hi,by simp[Em.lay],rfl⟩
theorem lL (s:Em)(op a b u:Nat):Pre s (s.push op a b u):=⟨fun i hi=>by simp only[Em.push];exact List.getElem?_append_left hi,by simp[Em.push],rfl⟩
theorem jf {s:Em}(h:Inv s)(x:Wo)(d:Nat)(h1:(x.op=1\/x.op=2)->x.a<s.cs.length)(h2:x.op=21->x.a<s.ns.length):Inv ⟨s.ws++[x],s.cs,s.ns,s.ks,d⟩:=by
 refine⟨h.nc,h.nn,fun y hy=>?_,fun y hy=>?_,fun i hi=>?_,fun i hi=>?_⟩
 ·rcases List.mem_append.1 hy with hy|hy
  ·exact h.wc y hy
  ·simp at hy;subst hy;exact h1
 ·rcases List.mem_append.1 hy with hy|hy
  ·exact h.wn y hy
  ·simp at hy;subst hy;exact h2
 ·obtain⟨y,hy,h3⟩:=h.uc i hi;exact⟨y,List.mem_append_left _ hy,h3⟩
 ·obtain⟨y,hy,h3⟩:=h.un i hi;exact⟨y,List.mem_append_left _ hy,h3⟩
theorem cm (op a b:Nat)(h1:op≠1)(h2:op≠2)(h3:op≠21):Gd (fun s=>s.lay op a b):=fun s h =>
 ⟨jf h⟨op,a,b⟩ s.dp(fun h=>by rcases h with h|h<;>contradiction)(fun h=>absurd h h3),sR s op a b⟩
theorem nh {s:Em}(h:Inv s)(n:Int)(op b d:Nat)(hop:op=1\/op=2):Inv ⟨(s.kc n).ws++[⟨op,s.cs.idxOf n,b⟩],(s.kc n).cs,(s.kc n).ns,(s.kc n).ks,d⟩:=by
 by_cases hm:n ∈ s.cs
 ·have e:(s.kc n).cs=s.cs:=by simp[Em.kc,hm]
  simp only[e];exact jf h⟨op,s.cs.idxOf n,b⟩ d(fun _=>List.idxOf_lt_length_of_mem hm)(fun h=>by rcases hop with e|e<;>(rw[e] at h;cases h))
 ·have e:(s.kc n).cs=s.cs++[n]:=by simp[Em.kc,hm]
  have ei:s.cs.idxOf n=s.cs.length:=List.idxOf_eq_length hm;simp only[e,ei];refine⟨?_,h.nn,fun y hy hyo=>?_,fun y hy hyo=>?_,fun i hi=>?_,fun i hi=>?_⟩
  ·rw[List.nodup_append];exact⟨h.nc,by simp,fun x hx y hy=>by simp at hy;subst hy;rintro rfl;exact hm hx⟩
  ·rw[List.length_append];rcases List.mem_append.1 hy with hy|hy
   ·have:=h.wc y hy hyo;omega
   ·simp at hy;subst hy;simp
  ·rcases List.mem_append.1 hy with hy|hy
   ·exact h.wn y hy hyo
   ·simp at hy;subst hy;rcases hop with e|e<;>(rw[e] at hyo;cases hyo)
  ·rw[List.length_append] at hi;by_cases hi2:i<s.cs.length
   ·obtain⟨y,hy,h3⟩:=h.uc i hi2;exact⟨y,List.mem_append_left _ hy,h3⟩
   ·exact⟨_,List.mem_append_right _(List.mem_singleton.2 rfl),hop,by simp at hi;simp only;omega⟩
  ·obtain⟨y,hy,h3⟩:=h.un i hi;exact⟨y,List.mem_append_left _ hy,h3⟩
theorem xQ {s:Em}(h:Inv s)(n:List UInt8)(d:Nat):Inv ⟨(s.kn n).ws++[⟨21,s.ns.idxOf n,0⟩],(s.kn n).cs,(s.kn n).ns,(s.kn n).ks,d⟩:=by
 by_cases hm:n ∈ s.ns
 ·have e:(s.kn n).ns=s.ns:=by simp[Em.kn,hm]
  simp only[e];exact jf h⟨21,s.ns.idxOf n,0⟩ d(fun h=>by simp at h)(fun _=>List.idxOf_lt_length_of_mem hm)
 ·have e:(s.kn n).ns=s.ns++[n]:=by simp[Em.kn,hm]
  have ei:s.ns.idxOf n=s.ns.length:=List.idxOf_eq_length hm;simp only[e,ei];refine⟨h.nc,?_,fun y hy hyo=>?_,fun y hy hyo=>?_,fun i hi=>?_,fun i hi=>?_⟩
  ·rw[List.nodup_append];exact⟨h.nn,by simp,fun x hx y hy=>by simp at hy;subst hy;rintro rfl;exact hm hx⟩
  ·rcases List.mem_append.1 hy with hy|hy
   ·exact h.wc y hy hyo
   ·simp at hy;subst hy;simp at hyo
  ·rw[List.length_append];rcases List.mem_append.1 hy with hy|hy
   ·have:=h.wn y hy hyo;omega
   ·simp at hy;subst hy;simp
  ·obtain⟨y,hy,h3⟩:=h.uc i hi;exact⟨y,List.mem_append_left _ hy,h3⟩
  ·rw[List.length_append] at hi;by_cases hi2:i<s.ns.length
   ·obtain⟨y,hy,h3⟩:=h.un i hi2;exact⟨y,List.mem_append_left _ hy,h3⟩
   ·exact⟨_,List.mem_append_right _(List.mem_singleton.2 rfl),rfl,by simp at hi;simp only;omega⟩
theorem eS (n:Int)(kd u:Nat):Gd (fun s=>s.con n kd u):=fun s h=>⟨nh h n 1 kd _ (.inl rfl),Pre.trans (b:=s.kc n) ⟨fun _ _=>rfl,Nat.le_refl _,rfl⟩ (lL (s.kc n) 1 _ kd u)⟩
theorem Dn (n:Int)(u:Nat):Gd (fun s=>(s.kc n).push 2 (s.cs.idxOf n) 0 u):=fun s h=>⟨nh h n 2 0 _ (.inr rfl),Pre.trans (b:=s.kc n) ⟨fun _ _=>rfl,Nat.le_refl _,rfl⟩ (lL (s.kc n) 2 _ 0 u)⟩
theorem CF (n:List UInt8):Gd (fun s=>(s.kn n).lay 21 (s.ns.idxOf n) 0):=fun s h=>⟨xQ h n _,Pre.trans (b:=s.kn n) ⟨fun _ _=>rfl,Nat.le_refl _,rfl⟩ (sR (s.kn n) 21 _ 0)⟩
theorem Df (a u:Nat):Gd (fun s=>s.push 3 a 0 u):=fun s h=>⟨jf h ⟨3,a,0⟩ _ (fun h=>by simp at h) (fun h=>by simp at h),lL s 3 a 0 u⟩
theorem kQ (s:Em)(i j:Nat):(s.land i).ws[j]?=if i=j then (s.ws[j]?).map (fun x=>x.to s.ws.length) else s.ws[j]?:=by
 simp only[Em.land];rw[List.getElem?_modify];split<;>simp
theorem DQ (x:Wo)(n:Nat):(x.to n).op=x.op:=by unfold Wo.to;split<;>rfl
theorem ju {s:Em}(h:Inv s){i:Nat}{x:Wo}(hx:s.ws[i]?=some x)(h1:x.op≠1)(h2:x.op≠2)(h3:x.op≠21):Inv (s.land i):=by
 have hmem:∀ y ∈ (s.land i).ws,(y.op=1\/y.op=2\/y.op=21)->y ∈ s.ws:=fun y hy ho=>by
  obtain⟨j,hj⟩:=List.mem_iff_getElem?.1 hy;rw[kQ] at hj;split at hj
  ·rename_i e
   subst e;rw[hx] at hj;simp at hj;subst hj;rw[DQ] at ho;rcases ho with ho|ho|ho<;>contradiction
  ·exact List.mem_iff_getElem?.2⟨j,hj⟩
 have hback:∀ y ∈ s.ws,(y.op=1\/y.op=2\/y.op=21)->y ∈ (s.land i).ws:=fun y hy ho=>by
  obtain⟨j,hj⟩:=List.mem_iff_getElem?.1 hy;refine List.mem_iff_getElem?.2⟨j,?_⟩;rw[kQ];split
  ·rename_i e
   subst e;rw[hx] at hj;simp at hj;subst hj;rcases ho with ho|ho|ho<;>contradiction
  ·exact hj
 refine⟨h.nc,h.nn,fun y hy ho=>h.wc y(hmem y hy(by rcases ho with e|e;exact .inl e;exact .inr(.inl e))) ho,fun y hy ho=>h.wn y(hmem y hy(.inr(.inr ho))) ho,fun k hk=>?_,fun k hk=>?_⟩
 ·obtain⟨y,hy,ho,ha⟩:=h.uc k hk;exact⟨y,hback y hy(by rcases ho with e|e;exact .inl e;exact .inr(.inl e)),ho,ha⟩
 ·obtain⟨y,hy,ho,ha⟩:=h.un k hk;exact⟨y,hback y hy(.inr(.inr ho)),ho,ha⟩
theorem pV (s:Em)(i:Nat):(s.land i).ws.length=s.ws.length:=by simp[Em.land]
theorem i9 {s s':Em}(h:Pre s s'){i:Nat}(hi:s.ws.length<=i):Pre s (s'.land i):=⟨fun j hj=>by rw[kQ,if_neg (by omega)];exact h.at1 j hj,by rw[pV];exact h.len,h.ks⟩
theorem i8 (s:Em)(op a b:Nat):(s.lay op a b).ws[s.ws.length]?=some ⟨op,a,b⟩:=by simp[Em.lay]
theorem kU {f g:Em->Em}(op:Nat)(hf:Gd f)(hg:Gd g)(h1:op≠1)(h2:op≠2)(h3:op≠21):Gd (fun s=>s.fork op f g):=fun s h=>by
 obtain⟨i1,p1⟩:=cm op 0 0 h1 h2 h3 s h;obtain⟨i2,p2⟩:=hf _ i1;obtain⟨i3,p3⟩:=cm 13 0 0(by decide)(by decide)(by decide) _ i2
 dsimp only at i1 p1 i2 p2 i3 p3
 have hl1:(s.lay op 0 0).ws.length=s.ws.length+1:=by simp[Em.lay]
 have hw1:((f(s.lay op 0 0)).lay 13 0 0).ws[s.ws.length]?=some⟨op,0,0⟩:=((p2.trans p3).at1 s.ws.length(by omega)).trans(i8 s op 0 0);have i4:=ju i3 hw1 h1 h2 h3;have p4:=i9((p1.trans p2).trans p3)(Nat.le_refl s.ws.length);obtain⟨i5,p5⟩:=hg _ i4;have hl2:=p2.len;have hl3:(((f(s.lay op 0 0)).lay 13 0 0).land s.ws.length).ws.length=(f(s.lay op 0 0)).ws.length+1:=by rw[pV];simp[Em.lay]
 have hw2:(((f(s.lay op 0 0)).lay 13 0 0).land s.ws.length).ws[(f(s.lay op 0 0)).ws.length]?=some⟨13,0,0⟩:=by
  rw[kQ,if_neg(by omega)];exact i8 _ 13 0 0
 have hw3:=(p5.at1(f(s.lay op 0 0)).ws.length(by omega)).trans hw2;exact⟨ju i5 hw3(by decide)(by decide)(by decide),i9(p4.trans p5)(by omega)⟩
theorem nY (h:Nat):∀ (l:List Int) (i:Nat),Gd (eC h l i)
 | [],_=>Gd.id
 | x::r,i=>fun s hs=>by
  unfold eC;by_cases e:x=(h:Int)
  ·rw[if_pos e];obtain⟨a,b⟩:=cm 19 i 0(by decide)(by decide)(by decide) s hs;obtain⟨c,d⟩:=nY h r(i+1) _ a;exact⟨c,b.trans d⟩
  ·rw[if_neg e];exact nY h r(i+1) s hs
theorem yY (lv:List Int){t:Tr}(ht:∀ ar u,Gd (t ar u))(ar u:Nat):Gd (bdy lv t ar u):=(nY (ar+1) lv 0).comp (ht (ar+1) u)
theorem sZ (lv:List Int){t:Tr}(ht:∀ ar u,Gd (t ar u))(op:Nat)(v:Int)(h1:op≠1)(h2:op≠2)(h3:op≠21)(ar u:Nat):Gd (uK lv t op v ar u):=fun s hs =>
 kU 24((((yY lv ht ar u).comp(cm op s.ws.length 0 h1 h2 h3)).comp(cm 25 0 0(by decide)(by decide)(by decide))).comp(eS v 2 u))(eS(1-v) 2 u)(by decide)(by decide)(by decide) s hs
theorem n9 (lv:List Int){t:Tr}(ht:∀ ar u,Gd (t ar u)){f:Nat->Em->Em}(hf:∀ g,Gd (f g))(ar u:Nat):Gd (mN lv t f ar u):=fun s h=>by
 obtain⟨i1,p1⟩:=cm 24 0 0(by decide)(by decide)(by decide) s h;obtain⟨i2,p2⟩:=(((yY lv ht ar u).comp(hf s.ws.length)).comp(cm 13 s.ws.length 0(by decide)(by decide)(by decide))) _ i1
 dsimp only at i1 p1 i2 p2
 have hl1:(s.lay 24 0 0).ws.length=s.ws.length+1:=by simp[Em.lay]
 have hw:=(p2.at1 s.ws.length(by omega)).trans(i8 s 24 0 0);exact⟨ju i2 hw(by decide)(by decide)(by decide),i9(p1.trans p2)(Nat.le_refl _)⟩
theorem Dk (lv:List Int)(n:Int){a t:Tr}(ha:∀ ar u,Gd (a ar u))(ht:∀ ar u,Gd (t ar u))(ar u:Nat):Gd (qua lv n a t ar u):=fun s hs=>by
 unfold qua;split
 ·exact((ha ar u).comp(sZ lv ht 15 0(by decide)(by decide)(by decide) ar u)) s hs
 ·split
  ·exact((ha ar u).comp(sZ lv ht 14 1(by decide)(by decide)(by decide) ar u)) s hs
  ·split
   ·exact(((ha ar u).comp(eS 0 1 u)).comp(n9 lv ht(fun g=>((cm 14 g 0(by decide)(by decide)(by decide)).comp(eS 1 1(u+1))).comp(cm 6 0 0(by decide)(by decide)(by decide))) ar(u+1))) s hs
   ·split
    ·exact(((ha ar u).comp(eS 0 1 u)).comp(n9 lv ht(fun g=>cm 6 0 0(by decide)(by decide)(by decide)) ar(u+1))) s hs
    ·exact(((((ha ar u).comp(eS 0 1 u)).comp(eS 0 2(u+1))).comp(n9 lv ht(fun g=>cm 26(n-5).toNat 0(by decide)(by decide)(by decide)) ar(u+2))).comp(cm 27 0 0(by decide)(by decide)(by decide))) s hs
theorem yB:∀ (T:List Tr) (i ar u:Nat),(∀ t ∈ T,∀ ar u,Gd (t ar u))->Gd (kH T i ar u)
 | [],_,_,_,_=>Gd.id
 | t::r,i,ar,u,h=>(h t(List.mem_cons_self ..) ar(u+i)).comp(yB r(i+1) ar u(fun x hx=>h x(List.mem_cons_of_mem _ hx)))
theorem rA (k:Int):fy k≠1/\fy k≠2/\fy k≠21:=by
 unfold fy
 repeat' split
 all_goals decide
theorem Cf (k n:Int)(nm:List UInt8)(kk:List Int):Gd (opr k n nm kk):=fun s hs=>by
 unfold opr;split
 ·exact cm 11 0 _(by decide)(by decide)(by decide) s hs
 ·split
  ·exact((cm 11 0(kk.getD 0 0).toNat(by decide)(by decide)(by decide)).comp(cm 5 0 0(by decide)(by decide)(by decide))) s hs
  ·split
   ·exact cm 12 0 0(by decide)(by decide)(by decide) s hs
   ·split
    ·exact cm 12 0 1(by decide)(by decide)(by decide) s hs
    ·split
     ·exact cm 16 _ 0(by decide)(by decide)(by decide) s hs
     ·split
      ·exact CF nm s hs
      ·split
       ·exact cm 23 _ 0(by decide)(by decide)(by decide) s hs
       ·exact cm _ 0 0(rA k).1(rA k).2.1(rA k).2.2 s hs
theorem fp {T:List Tr}(h:∀ t ∈ T,∀ ar u,Gd (t ar u))(i ar u:Nat):Gd (T.getD i noT ar u):=by
 by_cases hi:i<T.length
 ·rw[List.getD_eq_getElem?_getD,List.getElem?_eq_getElem hi];exact h _(List.getElem_mem hi) ar u
 ·rw[List.getD_eq_getElem?_getD,List.getElem?_eq_none(by omega)];exact Gd.id
theorem xu (lv:List Int)(k n:Int)(nm:List UInt8)(kk:List Int){T:List Tr}(h:∀ t ∈ T,∀ ar u,Gd (t ar u))(ar u:Nat):Gd (prt lv k n nm kk T ar u):=fun s hs=>by
 unfold prt;split
 ·exact eS n 1 u s hs
 split
 ·exact eS n 2 u s hs
 split
 ·exact Dn n u s hs
 split
 ·exact Df _ u s hs
 split
 ·exact((fp h 0 ar u).comp(kU 14(fp h 1 ar u)(eS 0 2 u)(by decide)(by decide)(by decide))) s hs
 split
 ·exact((fp h 0 ar u).comp(kU 15(fp h 1 ar u)(eS 1 2 u)(by decide)(by decide)(by decide))) s hs
 split
 ·exact((fp h 0 ar u).comp(kU 14(fp h 1 ar u)(fp h 2 ar u)(by decide)(by decide)(by decide))) s hs
 split
 ·have hs1:Inv(s.cel n.toNat(kk.getD 0 0)):=⟨hs.nc,hs.nn,hs.wc,hs.wn,hs.uc,hs.un⟩
  have p0:Pre s(s.cel n.toNat(kk.getD 0 0)):=⟨fun _ _=>rfl,Nat.le_refl _,by simp[Em.cel]⟩
  obtain⟨i1,p1⟩:=cm 17 n.toNat 0(by decide)(by decide)(by decide) _ hs1;obtain⟨i2,p2⟩:=((fp h 0 ar u).comp(cm 18 n.toNat 0(by decide)(by decide)(by decide))) _ i1
  dsimp only at i1 p1 i2 p2
  have hl1:((s.cel n.toNat(kk.getD 0 0)).lay 17 n.toNat 0).ws.length=s.ws.length+1:=by simp[Em.lay,Em.cel]
  have hw:=(p2.at1 s.ws.length(by omega)).trans(i8(s.cel n.toNat(kk.getD 0 0)) 17 n.toNat 0);exact⟨ju i2 hw(show(17:Nat)≠1 by decide)(show(17:Nat)≠2 by decide)(show(17:Nat)≠21 by decide),i9((p0.trans p1).trans p2)(Nat.le_refl _)⟩
 split
 ·exact Dk lv n(fun ar u=>fp h 0 ar u)(fun ar u=>fp h 1 ar u) ar u s hs
 ·exact((yB T 0 ar u h).comp(Cf k n nm kk)) s hs
theorem rx (lv:List Int):∀ (f:Fs),∀ t ∈ emF lv f,∀ ar u,Gd (t ar u)
 | ⟨none⟩=>fun t ht=>by simp[emF] at ht
 | ⟨some⟨k,n,nm,a,ks,r⟩⟩=>fun t ht ar u=>by
  simp only[emF,List.mem_cons] at ht;rcases ht with rfl|ht
  ·exact xu lv k n nm(kdF ks)(rx lv ks) ar u
  ·exact rx lv r t ht ar u
theorem BO (lv:List Int)(e:Ex)(ar u:Nat):Gd (emE lv e ar u):=xu lv e.k e.n e.nm (kdF e.kids) (rx lv e.kids) ar u
theorem AT (lv:List Int)(e:Ex):Inv (emA lv e)/\(emA lv e).ks.length=lv.length:=by
 have h0:Inv(em0 lv):=⟨List.nodup_nil,List.nodup_nil,fun x hx=>by simp[em0] at hx,fun x hx=>by simp[em0] at hx,fun i hi=>by simp[em0] at hi,fun i hi=>by simp[em0] at hi⟩
 obtain⟨h,p⟩:=((BO lv e 0 0).comp(cm 0 0 0(by decide)(by decide)(by decide))) _ h0;exact⟨h,p.ks.trans(by simp[em0])⟩
theorem uI (w:World)(v1 v2:Value)(xs ys:List Int)(h1:InA w v1 xs)(h2:InA w v2 ys)(hl:xs.length<=1000000000) :
  Calls Tryz.prog 48 #[v1,v2] w fun x w'=>x=.returned(.bool(decide(xs=ys)))/\Below w.heap.size w w':=by
 obtain⟨W,hW⟩:∃W,W=decide(xs=ys):=⟨_,rfl⟩
 rw[<-hW];have HW:Hid(W=decide(xs=ys)):=hW;clear hW;obtain⟨a1,c1,rfl,h1⟩:=h1;obtain⟨a2,c2,rfl,h2⟩:=h2;go_enter Tryz.func48,Tryz.ntmps48;by_cases hll:xs.length=ys.length
 ·have hI:((xs.length:Int) != (ys.length:Int))=false:=by rw[hll];simp
  have HL:Hid(xs.length=ys.length):=hll;clear hll;go_wp2;go_loopw [5](fun v wr=>∃k:Nat,k<=xs.length/\v=.int .i64(k:Nat)/\Hid(∀ j,j<k->xs[j]?=ys[j]?)/\Below w.heap.size w wr)(fun v _=>xs.length-(intOf v).toNat)
  case atStart=>exact⟨0,by omega,by go_num,fun j hj=>absurd hj(Nat.not_lt_zero _),Below.refl _ _⟩
  case round =>
   obtain⟨k,hk,rfl,hno,B1⟩:=hrel;by_cases hlt:k<xs.length
   ·have hy:k<ys.length:=by have:=HL.out;omega
    have hx1:xs[k]?=some xs[k]:=List.getElem?_eq_getElem hlt;have hy1:ys[k]?=some ys[k]:=List.getElem?_eq_getElem hy;rcases h1 with rfl|⟨g1,o1,rfl,-,hg1,hc1⟩
    ·simp at hlt
    rcases h2 with rfl|⟨g2,o2,rfl,-,hg2,hc2⟩
    ·simp at hy
    have x1:=(B1.cell(p:=⟨g1,o1+k,none⟩) hg1).trans(hc1 k _ hx1);have y1:=(B1.cell(p:=⟨g2,o2+k,none⟩) hg2).trans(hc2 k _ hy1);generalize xs[k]=x at x1 hx1;generalize ys[k]=y at y1 hy1;have hkI:(k:Int)<(xs.length:Int):=by omega
    have hkJ:(k:Int)<(ys.length:Int):=by omega
    have HX:Hid(xs[k]?=some x/\ys[k]?=some y):=⟨hx1,hy1⟩
    clear hx1 hy1 hc1 hc2 hI;by_cases he:x=y
    ·have hbe:(x != y)=false:=by simpa using he
     have hn2:Hid(∀ j,j<k+1->xs[j]?=ys[j]?):=by
      intro j hj;rcases Nat.lt_succ_iff_lt_or_eq.1 hj with h3|rfl
      ·exact hno.out j h3
      ·rw[HX.out.1,HX.out.2,he]
     clear hno HX he HW;go_wp2_with fail
     go_quiet(fail)
     have B2:=B1.trans(show Below w.heap.size wr(wr.drewN nq) from⟨rfl,rfl,rfl,Nat.le_refl _,fun _ _=>rfl⟩);go_wp2;go_roundw
     case rel=>exact⟨k+1,by omega,by go_num,hn2,B2⟩
     case measure=>simp[intOf];omega
    ·have hbe:(x != y)=true:=by simpa using he
     have FIN:Hid(W=false):=by
      show W=_;rw[HW.out];apply decide_eq_false;intro h3;rw[h3,HX.out.2] at HX
      have:=HX.out.1
      injection this with this
      exact he this.symm
     clear hno HX he HW;go_wp2_with fail
     go_quiet(fail)
     have B2:=B1.trans(show Below w.heap.size wr(wr.drewN nq) from⟨rfl,rfl,rfl,Nat.le_refl _,fun _ _=>rfl⟩);go_wp2;go_ret;rw[FIN.out];exact⟨rfl,B2⟩
   ·have hkI:¬(k:Int)<(xs.length:Int):=by omega
    have FIN:Hid(W=true):=by
     show W=_;rw[HW.out];apply decide_eq_true;apply List.ext_getElem?;intro j;rcases Nat.lt_or_ge j k with h3|h3
     ·exact hno.out j h3
     ·rw[List.getElem?_eq_none(by omega),List.getElem?_eq_none(by have:=HL.out;omega)]
    clear hno HW h1 h2 hI;go_wp2;go_ret;rw[FIN.out];exact⟨rfl,B1⟩
 ·have hI:((xs.length:Int) != (ys.length:Int))=true:=by simp;omega
  have FIN:Hid(W=false):=by
   show W=_;rw[HW.out];exact decide_eq_false(fun h3=>hll(by rw[h3]))
  clear HW hll h1 h2;go_wp2;go_ret;rw[FIN.out];exact⟨rfl,Below.refl _ _⟩
def hvP (e:Ex)(cells:List Int):Bool:=decide (20000<cells.length)||decide (wgF e.kids (20000-1)<0)
theorem wg (e:Ex)(ao:Option Addr)(cap ac0:Nat)(cv:Value)(cells:List Int)(w:World)(hc:InA w cv cells)(hcl:cells.length<=maxLen)(hlen:e.kids.len<=maxLen)(hwd:e.kids.wide)(S:SnA w e.kids ao) :
  Calls Tryz.prog 14 #[plV e ao cap cv] w fun x w'=>x=.returned(.bool(hvP e cells))/\Below w.heap.size w w':=by
 obtain⟨W,hW⟩:∃W,W=hvP e cells:=⟨_,rfl⟩
 rw[<-hW];have HW:Hid(W=hvP e cells):=hW;clear hW;obtain⟨ac,cc,hcv,hcx⟩:=hc;subst hcv;clear hcx;have hml:Hid(maxLen=9223372036854775807):=rfl;have hcm:cells.length<=9223372036854775807:=by have:=hml.out;omega
 have B0:Below w.heap.size w(w.alloc(.cells #[.int .i64 e.k,.int .i64 e.n,stv e.nm,.slice ao e.kids.len cap,.slice ac cells.length cc] 37)):=(Below.refl _ w).alloc(Nat.le_refl _) _;have E0:(w.alloc(.cells #[.int .i64 e.k,.int .i64 e.n,stv e.nm,.slice ao e.kids.len cap,.slice ac cells.length cc] 37)).heap[w.heap.size]?=some(.cells #[.int .i64 e.k,.int .i64 e.n,stv e.nm,.slice ao e.kids.len cap,.slice ac cells.length cc] 37):=heap_alloc_new w _;have S0:=SnA.below S B0;rw[bZ];go_enter Tryz.func14,Tryz.ntmps14;go_upto_region 1 with fail;generalize w.alloc(.cells #[.int .i64 e.k,.int .i64 e.n,stv e.nm,.slice ao e.kids.len cap,.slice ac cells.length cc] 37)=w0 at *;obtain⟨p0,p1,p2,p3,p4,pf⟩:=am E0;by_cases h2:20000<cells.length
 ·have hI:(20000:Int)<(cells.length:Int):=by omega
  have HZ:Hid(W=true):=by show W=_;rw[HW.out];simp[hvP,h2]
  clear HW h2;go_wp2;go_ret;rw[HZ.out];exact⟨rfl,B0⟩
 ·have hI:¬(20000:Int)<(cells.length:Int):=by omega
  have HZ:Hid(W=decide(wgF e.kids(20000-1)<0)):=by show W=_;rw[HW.out];simp[hvP,h2]
  have c1:=mY(e.kids.size+1) e ao cap 20000 w0(by omega) hlen hwd(by omega)(by omega) S0;rw[ah] at c1;generalize wgF e.kids(20000-1)=g at *;clear HW h2;go_wp2_with fail;refine c1.mono ?_;rintro z w1⟨rfl,b1⟩;have B1:Below w.heap.size w w1:=B0.trans(b1.mono B0.size);clear c1 p0 p1 p2 p3 p4 pf E0;go_wp2;go_ret;rw[HZ.out];exact⟨rfl,B1⟩
theorem zS {e:Ex}{cells:List Int}(h:hvP e cells=false):cells.length<=20000/\e.kids.size<=20000:=by
 unfold hvP at h;simp only[Bool.or_eq_false_iff,decide_eq_false_iff_not] at h;have h1:=lV e.kids(20000-1)(by omega);omega
def okQ (s:Em):Prop:=s.ws.length<=32768/\s.dp<=1024
structure Qle (s t:Em):Prop where
 ws:s.ws.length<=t.ws.length
 dp:s.dp<=t.dp
theorem Qle.ok {s t:Em}(h:Qle s t)(k:okQ t):okQ s:=⟨Nat.le_trans h.ws k.1,Nat.le_trans h.dp k.2⟩
theorem Qle.refl (s:Em):Qle s s:=⟨Nat.le_refl _,Nat.le_refl _⟩
theorem Qle.trans {a b c:Em}(h:Qle a b)(k:Qle b c):Qle a c:=⟨Nat.le_trans h.ws k.ws,Nat.le_trans h.dp k.dp⟩
theorem aN (s:Em)(op a b:Nat):Qle s (s.lay op a b):=⟨by simp[Em.lay],Nat.le_refl _⟩
theorem lo (s:Em)(op a b u:Nat):Qle s (s.push op a b u):=⟨by simp[Em.push],by simp only[Em.push];omega⟩
theorem sC (s:Em)(n:Int):Qle s (s.kc n):=⟨Nat.le_refl _,Nat.le_refl _⟩
theorem xI (s:Em)(x:List UInt8):Qle s (s.kn x):=⟨Nat.le_refl _,Nat.le_refl _⟩
theorem cL (s:Em)(n:Int)(kd u:Nat):Qle s (s.con n kd u):=(sC s n).trans (lo _ 1 _ kd u)
theorem eA (s:Em)(i:Nat):Qle s (s.land i):=⟨by simp[Em.land],Nat.le_refl _⟩
theorem tb (s:Em)(i:Nat)(k:Int):Qle s (s.cel i k):=⟨Nat.le_refl _,Nat.le_refl _⟩
def Qgr (f:Em->Em):Prop:=∀ s,Qle s (f s)
theorem Qgr.id:Qgr (fun s=>s):=Qle.refl
theorem jF {f g:Em->Em}(op:Nat)(hf:Qgr f)(hg:Qgr g):Qgr (fun s=>s.fork op f g):=fun s =>
 ((((aN s op 0 0).trans(hf _)).trans(aN _ 13 0 0)).trans(eA _ _)).trans((hg _).trans(eA _ _))
theorem dS (h:Nat):∀ (l:List Int) (i:Nat),Qgr (eC h l i)
 | [],_=>Qgr.id
 | x::r,i=>fun s=>by
  unfold eC;by_cases e:x=(h:Int)
  ·rw[if_pos e];exact(aN s 19 i 0).trans(dS h r(i+1) _)
  ·rw[if_neg e];exact dS h r(i+1) s
def Qtr (t:Tr):Prop:=∀ ar u,Qgr (t ar u)
theorem sU (lv:List Int){t:Tr}(ht:Qtr t)(ar u:Nat):Qgr (bdy lv t ar u):=fun s=>(dS (ar+1) lv 0 s).trans (ht (ar+1) u _)
theorem qj (lv:List Int){t:Tr}(ht:Qtr t)(op:Nat)(v:Int)(ar u:Nat):Qgr (uK lv t op v ar u):=fun s =>
 jF 24(f:=fun x=>(((bdy lv t ar u x).lay op s.ws.length 0).lay 25 0 0).con v 2 u)(fun x=>(((sU lv ht ar u x).trans(aN _ _ _ _)).trans(aN _ _ _ _)).trans(cL _ _ _ _))(fun x=>cL _ _ _ _) s
theorem lP (lv:List Int){t:Tr}(ht:Qtr t){f:Nat->Em->Em}(hf:∀ g,Qgr (f g))(ar u:Nat):Qgr (mN lv t f ar u):=fun s =>
 ((((aN s 24 0 0).trans(sU lv ht ar u _)).trans(hf _ _)).trans(aN _ _ _ _)).trans(eA _ _)
theorem td (lv:List Int)(n:Int){a t:Tr}(ha:Qtr a)(ht:Qtr t)(ar u:Nat):Qgr (qua lv n a t ar u):=fun s=>by
 unfold qua;split
 ·exact(ha ar u s).trans(qj lv ht 15 0 ar u _)
 split
 ·exact(ha ar u s).trans(qj lv ht 14 1 ar u _)
 split
 ·exact((ha ar u s).trans(cL _ _ _ _)).trans(lP lv ht(f:=fun g x=>((x.lay 14 g 0).con 1 1(u+1)).lay 6 0 0)(fun g x=>((aN _ _ _ _).trans(cL _ _ _ _)).trans(aN _ _ _ _)) ar(u+1) _)
 split
 ·exact((ha ar u s).trans(cL _ _ _ _)).trans(lP lv ht(f:=fun _ x=>x.lay 6 0 0)(fun g x=>aN _ _ _ _) ar(u+1) _)
 ·exact((((ha ar u s).trans(cL _ _ _ _)).trans(cL _ _ _ _)).trans(lP lv ht(f:=fun _ x=>x.lay 26(n-5).toNat 0)(fun g x=>aN _ _ _ _) ar(u+2) _)).trans(aN _ _ _ _)
theorem tO:∀ (T:List Tr) (i ar u:Nat),(∀ t ∈ T,Qtr t)->Qgr (kH T i ar u)
 | [],_,_,_,_=>Qgr.id
 | t::r,i,ar,u,h=>fun s=>(h t(List.mem_cons_self ..) ar(u+i) s).trans(tO r(i+1) ar u(fun x hx=>h x(List.mem_cons_of_mem _ hx)) _)
theorem Aq (k n:Int)(nm:List UInt8)(kk:List Int):Qgr (opr k n nm kk):=fun s=>by
 unfold opr
 repeat' split
 all_goals first|exact aN _ _ _ _|exact(aN _ _ _ _).trans(aN _ _ _ _)|exact(xI _ _).trans(aN _ _ _ _)
theorem oN {T:List Tr}(h:∀ t ∈ T,Qtr t)(i:Nat):Qtr (T.getD i noT):=by
 by_cases hi:i<T.length
 ·rw[List.getD_eq_getElem?_getD,List.getElem?_eq_getElem hi];exact h _(List.getElem_mem hi)
 ·rw[List.getD_eq_getElem?_getD,List.getElem?_eq_none(by omega)];exact fun _ _=>Qgr.id
theorem oe (lv:List Int)(k n:Int)(nm:List UInt8)(kk:List Int){T:List Tr}(h:∀ t ∈ T,Qtr t):Qtr (prt lv k n nm kk T):=fun ar u s=>by
 have q0:=oN h 0;have q1:=oN h 1;have q2:=oN h 2;unfold prt;split
 ·exact cL _ _ _ _
 split
 ·exact cL _ _ _ _
 split
 ·exact(sC _ _).trans(lo _ _ _ _ _)
 split
 ·exact lo _ _ _ _ _
 split
 ·exact(q0 ar u s).trans(jF 14(q1 ar u)(fun x=>cL _ _ _ _) _)
 split
 ·exact(q0 ar u s).trans(jF 15(q1 ar u)(fun x=>cL _ _ _ _) _)
 split
 ·exact(q0 ar u s).trans(jF 14(q1 ar u)(q2 ar u) _)
 split
 ·exact((((tb _ _ _).trans(aN _ _ _ _)).trans(q0 ar u _)).trans(aN _ _ _ _)).trans(eA _ _)
 split
 ·exact td lv n q0 q1 ar u s
 ·exact(tO T 0 ar u h s).trans(Aq k n nm kk _)
theorem lf (lv:List Int):∀ (f:Fs),∀ t ∈ emF lv f,Qtr t
 | ⟨none⟩=>fun t ht=>by simp[emF] at ht
 | ⟨some⟨k,n,nm,a,ks,r⟩⟩=>fun t ht=>by
  simp only[emF,List.mem_cons] at ht;rcases ht with rfl|ht
  ·exact oe lv k n nm(kdF ks)(lf lv ks)
  ·exact lf lv r t ht
structure Dp where
 ws:List Wo
 cs:List Int
 ns:List(List UInt8)
 ks:List Int
 h:Int
 top:Int
 lg:Bool
def Dp.puts (s:Dp)(op a b:Nat):Dp:=if 32768<=s.ws.length then { s with lg:=true } else { s with ws:=s.ws++[⟨op,a,b⟩] }
def Dp.at1 (s:Dp):Nat:=if 32768<=s.ws.length then 0 else s.ws.length
def Dp.grows (s:Dp)(n:Int):Dp:={ s with h:=s.h+n,top:=max s.top (s.h+n),lg:=s.lg||decide (1024<max s.top (s.h+n)) }
def Dp.kI (s:Dp)(n:Int):Dp:={ s with cs:=if n ∈ s.cs then s.cs else s.cs++[n] }
def Dp.kN (s:Dp)(x:List UInt8):Dp:={ s with ns:=if x ∈ s.ns then s.ns else s.ns++[x] }
def Dp.val (s:Dp)(n:Int)(kd:Nat):Dp:=((s.kI n).puts 1 (s.cs.idxOf n) kd).grows 1
def Dp.lands (s:Dp)(i:Nat):Dp:=if s.lg then s else { s with ws:=s.ws.modify i (fun x=>x.to s.ws.length) }
def Dp.cel (s:Dp)(i:Nat)(k:Int):Dp:=if s.ks.getD i 0=0 then { s with ks:=s.ks.set i k } else s
abbrev Td:=Nat->Dp->Dp
abbrev noD:Td:=fun _ s=>s
def cR:List Td->Nat->Dp->Dp
 | [],_,s=>s
 | t::r,ar,s=>cR r ar(t ar s)
def we (k:Int)(kk:List Int)(s:Dp):Dp :=
 if k=13 then s.puts 11 0(kk.getD 0 0).toNat else if k=14 then(s.puts 11 0(kk.getD 0 0).toNat).puts 5 0 0 else if k=15 then s.puts 12 0 0 else s.puts 12 0 1
def xy (k:Int)(t0 t1 t2:Td):Td:=fun ar s =>
 let a:=t0 ar s
 let c:=t1 ar((a.puts(if k=18 then 15 else 14) 0 0).grows(-1))
 let e:=((c.puts 13 0 0).grows(-1)).lands a.at1
 (if k=17 then e.val 0 2 else if k=18 then e.val 1 2 else t2 ar e).lands c.at1
def sG (n:Nat)(kd:Int)(t0:Td):Td:=fun ar s =>
 ((t0 ar((s.cel n kd).puts 17 n 0)).puts 18 n 0).lands(s.cel n kd).at1
def uX (k:Int)(nm:List UInt8)(T:List Td):Td:=fun ar s =>
 let a:=cR T ar s
 (if k=22 then a.puts 20 0 0 else if k=23 then(a.kN nm).puts 21(a.ns.idxOf nm) 0 else if k=24 then a.puts 22 0 0 else a.puts 23 T.length 0).grows(-(T.length:Int))
def fB (h:Nat):List Int->Nat->Dp->Dp
 | [],_,s=>s
 | l::r,i,s=>if s.lg then s else fB h r(i+1)(if l=(h:Int) then s.puts 19 i 0 else s)
def nT (n:Int)(loop next:Nat)(e:Dp):Dp :=
 let c:=(((e.puts(if n=2 then 14 else 15) loop 0).grows(-1)).puts 25 0 0).val(if n=2 then 1 else 0) 2
 ((((c.puts 13 0 0).grows(-1)).lands next).val(if n=2 then 0 else 1) 2).lands c.at1
def eD (n:Int)(a:Dp):Dp :=
 let b:=if 3<=n then a.val 0 1 else a
 if 5<=n then b.val 0 2 else b
def mK (n:Int)(loop:Nat)(e:Dp):Dp :=
 if n=3 then((((e.puts 14 loop 0).grows(-1)).val 1 1).puts 6 0 0).grows(-1) else if n=4 then(e.puts 6 0 0).grows(-1) else(e.puts 26(n-5).toNat 0).grows(-1)
def mP (n:Int)(loop next:Nat)(e:Dp):Dp :=
 let g:=((mK n loop e).puts 13 loop 0).lands next
 if 5<=n then(g.puts 27 0 0).grows(-1) else g
def iS (lv:List Int)(n:Int)(t0 t1:Td):Td:=fun ar s =>
 let b:=eD n(t0 ar s)
 if b.lg then b else
 let e:=t1(ar+1)(fB(ar+1) lv 0(b.puts 24 0 0))
 if n=1\/n=2 then nT n b.ws.length b.at1 e else mP n b.ws.length b.at1 e
def mf (lv:List Int)(k n:Int)(nm:List UInt8)(kk:List Int)(T:List Td):Td:=fun ar s =>
 if 22<=k/\k<=25 then uX k nm T ar s else if s.lg then s
 else if k=1 then s.val n 1 else if k=2 then s.val n 2 else if k=3 then((s.kI n).puts 2(s.cs.idxOf n) 0).grows 1 else if k=5 then(s.puts 3 n.toNat 0).grows 1
 else if 6<=k/\k<=12 then((cR T ar s).puts(fy k) 0 0).grows(if k=6\/k=7 then 0 else -1)
 else if 13<=k/\k<=16 then(we k kk(cR T ar s)).grows(-1)
 else if k=20 then((cR T ar s).puts 16 n.toNat 0).grows(1-(T.length:Int))
 else if k=26 then sG n.toNat(kk.getD 0 0)(T.getD 0 noD) ar s
 else if k=21 then iS lv n(T.getD 0 noD)(T.getD 1 noD) ar s
 else xy k(T.getD 0 noD)(T.getD 1 noD)(T.getD 2 noD) ar s
def deF (lv:List Int):Fs->List Td
 | ⟨none⟩=>[]
 | ⟨some⟨k,n,nm,_,ks,r⟩⟩=>mf lv k n nm(kdF ks)(deF lv ks)::deF lv r
def deE (lv:List Int)(e:Ex):Td:=mf lv e.k e.n e.nm (kdF e.kids) (deF lv e.kids)
theorem nU (lv:List Int):∀ f:Fs,(deF lv f).length=f.len
 | ⟨none⟩=>rfl
 | ⟨some⟨k,n,nm,a,ks,r⟩⟩=>by simp only[deF,Fs.len,List.length_cons,nU lv r]
structure Dp.sz (m:Nat)(s:Dp):Prop where
 c:s.cs.length<=m
 n:s.ns.length<=m
 h1:-(m:Int)<=s.h
 h2:s.h<=(m:Int)
 t1:-(m:Int)<=s.top
 t2:s.top<=(m:Int)
structure Dle (c:Nat)(s t:Dp):Prop where
 sz:∀ m,s.sz m->t.sz(m+c)
 w1:s.ws.length<=32768->t.ws.length<=32768
 w2:s.ws.length<=t.ws.length
 ks:t.ks.length=s.ks.length
 lg:s.lg=true->t.lg=true
theorem Dp.sz.mono {m m':Nat}{s:Dp}(h:s.sz m)(k:m<=m'):s.sz m':=by
 obtain⟨a,b,c,d,e,f⟩:=h;constructor<;>omega
theorem Dle.refl (s:Dp):Dle 0 s s:=⟨fun m h=>h,id,Nat.le_refl _,rfl,id⟩
theorem Dle.trans {a b:Nat}{x y z:Dp}(h:Dle a x y)(k:Dle b y z):Dle (a+b) x z:=⟨fun m q=>(k.sz _ (h.sz m q)).mono (by omega),fun q=>k.w1 (h.w1 q),Nat.le_trans h.w2 k.w2,k.ks.trans h.ks,fun q=>k.lg (h.lg q)⟩
theorem Dle.le {a b:Nat}{x y:Dp}(h:Dle a x y)(k:a<=b):Dle b x y:=⟨fun m q=>(h.sz m q).mono (by omega),h.w1,h.w2,h.ks,h.lg⟩
theorem as (s:Dp)(op a b:Nat):Dle 0 s (s.puts op a b):=by
 unfold Dp.puts;split
 ·exact⟨fun m h=>⟨h.c,h.n,h.h1,h.h2,h.t1,h.t2⟩,id,Nat.le_refl _,rfl,fun _=>rfl⟩
 ·exact⟨fun m h=>⟨h.c,h.n,h.h1,h.h2,h.t1,h.t2⟩,fun _=>by simp;omega,by simp,rfl,id⟩
theorem aP (s:Dp)(n:Int)(c:Nat)(h1:-(c:Int)<=n)(h2:n<=(c:Int)):Dle c s (s.grows n):=by
 refine⟨fun m h=>?_,id,Nat.le_refl _,rfl,fun h=>by simp[Dp.grows,h]⟩;obtain⟨a,b,d,e,f,g⟩:=h;constructor<;>simp only[Dp.grows]<;>omega
theorem lz (s:Dp)(n:Int):Dle 1 s (s.kI n):=by
 refine⟨fun m h=>?_,id,Nat.le_refl _,rfl,id⟩;obtain⟨a,b,d,e,f,g⟩:=h;constructor<;>simp only[Dp.kI]
 ·split<;>(try simp)<;>omega
 all_goals omega
theorem rj (s:Dp)(n:List UInt8):Dle 1 s (s.kN n):=by
 refine⟨fun m h=>?_,id,Nat.le_refl _,rfl,id⟩;obtain⟨a,b,d,e,f,g⟩:=h;constructor<;>simp only[Dp.kN]
 ·omega
 ·split<;>(try simp)<;>omega
 all_goals omega
theorem bP (s:Dp)(n:Int)(kd:Nat):Dle 2 s (s.val n kd):=(((lz s n).trans (as _ 1 _ kd)).trans (aP _ 1 1 (by omega) (by omega))).le (by omega)
theorem aY (s:Dp)(i:Nat):Dle 0 s (s.lands i):=by
 unfold Dp.lands;split
 ·exact Dle.refl s
 ·exact⟨fun m h=>⟨h.c,h.n,h.h1,h.h2,h.t1,h.t2⟩,fun h=>by simp;omega,by simp,rfl,id⟩
theorem nQ (s:Dp)(i:Nat)(k:Int):Dle 0 s (s.cel i k):=by
 unfold Dp.cel;split
 ·exact⟨fun m h=>⟨h.c,h.n,h.h1,h.h2,h.t1,h.t2⟩,id,Nat.le_refl _,by simp,id⟩
 ·exact Dle.refl s
theorem fa (h:Nat):∀ (l:List Int) (i:Nat) (s:Dp),Dle 0 s (fB h l i s)
 | [],_,s=>Dle.refl s
 | x::r,i,s=>by
  unfold fB;split
  ·exact Dle.refl s
  ·split
   ·exact(as s 19 i 0).trans(fa h r(i+1) _)
   ·exact fa h r(i+1) s
def Tle (c:Nat)(t:Td):Prop:=∀ ar s,Dle c s (t ar s)
theorem Ao (n:Int)(loop next:Nat)(e:Dp):Dle 6 e (nT n loop next e) :=
 ((((((((as e _ loop 0).trans(aP _(-1) 1(by omega)(by omega))).trans(as _ 25 0 0)).trans(bP _ _ 2)).trans(as _ 13 0 0)).trans(aP _(-1) 1(by omega)(by omega))).trans(aY _ _)).trans(bP _ _ 2)).trans(aY _ _)
theorem gU (n:Int)(a:Dp):Dle 4 a (eD n a):=by
 unfold eD
 dsimp only
 split<;>split
 ·exact(bP _ _ _).trans(bP _ _ _)
 ·exact((bP _ _ _)).le(by omega)
 ·exact((bP _ _ _)).le(by omega)
 ·exact(Dle.refl _).le(by omega)
theorem la (n:Int)(loop:Nat)(e:Dp):Dle 4 e (mK n loop e):=by
 unfold mK;split
 ·exact((((as e 14 loop 0).trans(aP _(-1) 1(by omega)(by omega))).trans(bP _ 1 1)).trans(as _ 6 0 0)).trans(aP _(-1) 1(by omega)(by omega))
 ·split
  ·exact((as e _ _ 0).trans(aP _(-1) 1(by omega)(by omega))).le(by omega)
  ·exact((as e _ _ 0).trans(aP _(-1) 1(by omega)(by omega))).le(by omega)
theorem Ax (n:Int)(loop next:Nat)(e:Dp):Dle 5 e (mP n loop next e):=by
 unfold mP
 dsimp only
 have h:=((la n loop e).trans(as _ 13 loop 0)).trans(aY _ next);split
 ·exact((h.trans(as _ 27 0 0)).trans(aP _(-1) 1(by omega)(by omega))).le(by omega)
 ·exact h.le(by omega)
theorem Al (lv:List Int)(n:Int){t0 t1:Td}{a b:Nat}(h0:Tle a t0)(h1:Tle b t1):Tle (a+b+10) (iS lv n t0 t1):=fun ar s=>by
 unfold iS
 dsimp only
 have hb:=(h0 ar s).trans(gU n _);split
 ·exact hb.le(by omega)
 ·have he:=((hb.trans(as _ 24 0 0)).trans(fa(ar+1) lv 0 _)).trans(h1(ar+1) _);split
  ·exact(he.trans(Ao n _ _ _)).le(by omega)
  ·exact(he.trans(Ax n _ _ _)).le(by omega)
theorem y9 (k:Int){t0 t1 t2:Td}{a b c:Nat}(h0:Tle a t0)(h1:Tle b t1)(h2:Tle c t2):Tle (a+b+c+4) (xy k t0 t1 t2):=fun ar s=>by
 unfold xy
 dsimp only
 generalize(if k=18 then 15 else 14)=op;have he:=((((((h0 ar s).trans(as _ op 0 0)).trans(aP _(-1) 1(by omega)(by omega))).trans(h1 ar _)).trans(as _ 13 0 0)).trans(aP _(-1) 1(by omega)(by omega))).trans(aY _(t0 ar s).at1);split
 ·exact((he.trans(bP _ _ _)).trans(aY _ _)).le(by omega)
 ·split
  ·exact((he.trans(bP _ _ _)).trans(aY _ _)).le(by omega)
  ·exact((he.trans(h2 ar _)).trans(aY _ _)).le(by omega)
theorem wQ (n:Nat)(kd:Int){t0:Td}{a:Nat}(h0:Tle a t0):Tle a (sG n kd t0):=fun ar s=>by
 unfold sG;exact((((nQ s n kd).trans(as _ 17 n 0)).trans(h0 ar _)).trans((as _ 18 n 0).trans(aY _ _))).le(by omega)
def Tls:List Td->Fs->Prop
 | [],⟨none⟩=>True
 | t::T,⟨some⟨_,_,_,_,ks,r⟩⟩=>Tle(17*ks.size+16) t/\Tls T r
 | _,_=>False
theorem lW:∀ (T:List Td) (f:Fs),Tls T f->T.length=f.len/\∃c,c+f.len=17*f.size/\Tle c (fun ar s=>cR T ar s)
 | [],⟨none⟩,_=>⟨rfl,0,rfl,fun ar s=>Dle.refl s⟩
 | t::T,⟨some⟨k,n,nm,a,ks,r⟩⟩,h=>by
  obtain⟨hl,c,hc,hk⟩:=lW T r h.2;refine⟨by simp only[List.length_cons,Fs.len,hl],17*ks.size+16+c,by simp only[Fs.len,Fs.size];omega,fun ar s=>?_⟩;exact(h.1 ar s).trans(hk ar _)
 | [],⟨some⟨k,n,nm,a,ks,r⟩⟩,h=>by simp[Tls] at h
 | t::T,⟨none⟩,h=>by simp[Tls] at h
theorem AI:∀ (T:List Td) (f:Fs),Tls T f->∃a b c,Tle a (T.getD 0 noD)/\Tle b (T.getD 1 noD)/\Tle c (T.getD 2 noD)/\a+b+c+min f.len 3<=17*f.size
 | [],⟨none⟩,_=>⟨0,0,0,fun _ s=>Dle.refl s,fun _ s=>Dle.refl s,fun _ s=>Dle.refl s,by simp[Fs.len]⟩
 | [t],⟨some⟨k,n,nm,a,ks,⟨none⟩⟩⟩,h=>⟨_,0,0,h.1,fun _ s=>Dle.refl s,fun _ s=>Dle.refl s,by simp only[Fs.len,Fs.size];omega⟩
 | [t,u],⟨some⟨k,n,nm,a,ks,⟨some⟨k',n',nm',a',ks',⟨none⟩⟩⟩⟩⟩,h=>⟨_,_,0,h.1,h.2.1,fun _ s=>Dle.refl s,by simp only[Fs.len,Fs.size];omega⟩
 | t::u::v::T,⟨some⟨k,n,nm,a,ks,⟨some⟨k',n',nm',a',ks',⟨some⟨k2,n2,nm2,a2,ks2,r⟩⟩⟩⟩⟩⟩,h=>⟨_,_,_,h.1,h.2.1,h.2.2.1,by simp only[Fs.len,Fs.size];omega⟩
 | [],⟨some⟨k,n,nm,a,ks,r⟩⟩,h=>by simp[Tls] at h
 | t::T,⟨none⟩,h=>by simp[Tls] at h
 | [t],⟨some⟨k,n,nm,a,ks,⟨some⟨k',n',nm',a',ks',r⟩⟩⟩⟩,h=>by simp[Tls] at h
 | t::u::T,⟨some⟨k,n,nm,a,ks,⟨none⟩⟩⟩,h=>by simp[Tls] at h
 | [t,u],⟨some⟨k,n,nm,a,ks,⟨some⟨k',n',nm',a',ks',⟨some⟨k2,n2,nm2,a2,ks2,r⟩⟩⟩⟩⟩⟩,h=>by simp[Tls] at h
 | t::u::v::T,⟨some⟨k,n,nm,a,ks,⟨some⟨k',n',nm',a',ks',⟨none⟩⟩⟩⟩⟩,h=>by simp[Tls] at h
theorem tg (k:Int)(kk:List Int)(s:Dp):Dle 0 s (we k kk s):=by
 unfold we;split
 ·exact as _ _ _ _
 split
 ·exact(as _ _ _ _).trans(as _ _ _ _)
 split
 ·exact as _ _ _ _
 ·exact as _ _ _ _
theorem od (lv:List Int)(k n:Int)(nm:List UInt8)(kk:List Int)(T:List Td)(f:Fs)(h:Tls T f):Tle (17*f.size+16) (mf lv k n nm kk T):=fun ar s=>by
 obtain⟨hl,c,hc,hk⟩:=lW T f h;obtain⟨a,b,d,g0,g1,g2,hg⟩:=AI T f h;have hkd:=hk ar s
 dsimp only at hkd
 unfold mf;split
 ·unfold uX
  dsimp only
  split
  ·exact((hkd.trans(as _ _ _ _)).trans(aP _ _ T.length(by omega)(by omega))).le(by omega)
  split
  ·exact(((hkd.trans(rj _ nm)).trans(as _ _ _ _)).trans(aP _ _ T.length(by omega)(by omega))).le(by omega)
  split
  ·exact((hkd.trans(as _ _ _ _)).trans(aP _ _ T.length(by omega)(by omega))).le(by omega)
  ·exact((hkd.trans(as _ _ _ _)).trans(aP _ _ T.length(by omega)(by omega))).le(by omega)
 split
 ·exact(Dle.refl s).le(by omega)
 split
 ·exact(bP _ _ _).le(by omega)
 split
 ·exact(bP _ _ _).le(by omega)
 split
 ·exact(((lz s n).trans(as _ _ _ _)).trans(aP _ 1 1(by omega)(by omega))).le(by omega)
 split
 ·exact((as s _ _ _).trans(aP _ 1 1(by omega)(by omega))).le(by omega)
 split
 ·refine((hkd.trans(as _ _ _ _)).trans(aP _ _ 1 ?_ ?_)).le(by omega)<;>split<;>omega
 split
 ·exact((hkd.trans(tg k kk _)).trans(aP _(-1) 1(by omega)(by omega))).le(by omega)
 split
 ·exact((hkd.trans(as _ _ _ _)).trans(aP _ _(T.length+1)(by omega)(by omega))).le(by omega)
 split
 ·exact(wQ n.toNat _ g0 ar s).le(by omega)
 split
 ·exact(Al lv n g0 g1 ar s).le(by omega)
 ·exact(y9 k g0 g1 g2 ar s).le(by omega)
theorem jl (lv:List Int):∀ (f:Fs),Tls (deF lv f) f
 | ⟨none⟩=>trivial
 | ⟨some⟨k,n,nm,a,ks,r⟩⟩=>⟨od lv k n nm(kdF ks)(deF lv ks) ks(jl lv ks),jl lv r⟩
theorem bQ (lv:List Int)(e:Ex):Tle (17*e.kids.size+16) (deE lv e):=od lv e.k e.n e.nm (kdF e.kids) (deF lv e.kids) e.kids (jl lv e.kids)
def fX (x:Wo):List Value:=[.int .i64 (x.op:Nat),.int .i64 (x.a:Nat),.int .i64 (x.b:Nat)]
def iJ:List Wo->List Value
 | []=>[]
 | x::r=>fX x++iJ r
theorem pQ:∀ l m:List Wo,iJ (l++m)=iJ l++iJ m
 | [],m=>rfl
 | x::l,m=>by rw[List.cons_append,iJ,pQ l m,iJ,List.append_assoc]
theorem n6:∀ (l:List Wo) (i j:Nat) (x:Wo),l[i]?=some x->j<3->(iJ l)[i*3+j]?=(fX x)[j]?
 | [],i,j,x,h,_=>by simp at h
 | y::l,0,j,x,h,hj=>by
  simp at h;subst h;rw[iJ,List.getElem?_append_left(by simp[fX];omega)]
  congr 1
  omega
 | y::l,i+1,j,x,h,hj=>by
  have h':l[i]?=some x:=by simpa using h
  rw[iJ,List.getElem?_append_right(by simp[fX];omega),<-n6 l i j x h' hj]
  congr 1
  simp[fX];omega
structure DW (w:World)(o:Nat->Nat)(rb:Nat)(p0 p1 p2 p3 p4:Value)(s:Dp):Prop where
 wl:s.ws.length<=32768
 mem:∃vc vn vk vw,Blk w o 1 rb(.cells #[p0,p1,p2,p3,p4,vc,vn,vk,vw,.int .i64 s.h,.int .i64 s.top,.bool s.lg] 80) /\
  Row w o 2 85 3 vw s.ws.length(iJ s.ws)/\Row w o 3 3 1 vc s.cs.length(eiV s.cs)/\Row w o 4 9 1 vn s.ns.length(esV s.ns)/\Row w o 5 3 1 vk s.ks.length(eiV s.ks)
theorem DW.step {I:Nat->Prop}{w w':World}{o o':Nat->Nat}{rb:Nat}{p0 p1 p2 p3 p4:Value}{s:Dp}(h:DW w o rb p0 p1 p2 p3 p4 s)(x:aa I w o w' o')(hi:∀ k,I17 k->¬I k):DW w' o' rb p0 p1 p2 p3 p4 s:=by
 obtain⟨a,vc,vn,vk,vw,q0,q1,q2,q3,q4⟩:=h;exact⟨a,vc,vn,vk,vw,q0.step x(hi 1(by decide)),q1.step x(hi 2(by decide)),q2.step x(hi 3(by decide)),q3.step x(hi 4(by decide)),q4.step x(hi 5(by decide))⟩
theorem bT {w:World}{b:Nat}{x0 x1 x2 x3 x4 x5 x6 x7 x8 x9 xa xb:Value}{t:TypeId}(h:w.heap[b]?=some (.cells #[x0,x1,x2,x3,x4,x5,x6,x7,x8,x9,xa,xb] t (0,0))):(w.cell? ⟨b,4,none⟩=some x4/\w.cell? ⟨b,5,none⟩=some x5/\w.cell? ⟨b,6,none⟩=some x6/\w.cell? ⟨b,7,none⟩=some x7/\w.cell? ⟨b,8,none⟩=some x8/\w.cell? ⟨b,9,none⟩=some x9/\w.cell? ⟨b,10,none⟩=some xa/\w.cell? ⟨b,11,none⟩=some xb)/\∀ j,w.frozen? ⟨b,j,none⟩=false:=by
 refine⟨⟨?_,?_,?_,?_,?_,?_,?_,?_⟩,fun j=>frozen_of_row w b j _ t h⟩<;>(rw[cell_of_row w b _ _ t(0,0) h];rfl)
def cH (w:World)(o:Nat->Nat)(rb:Nat)(p0 p1 p2 p3 p4:Value)(s:Dp)(v:Value)(e:Ending)(w':World):Prop:=e=.returned v/\∃o',DW w' o' rb p0 p1 p2 p3 p4 s/\aa I17 w o w' o'
theorem Ag:(Tryz.prog.info? 85).map (fun i=>(i.zero,i.size,i.bytes))=some (some (.agg #[.int .i64 0,.int .i64 0,.int .i64 0]),3,24):=by kernel_rfl
theorem aS (w:World)(o:Nat->Nat)(rb:Nat)(p0 p1 p2 p3 p4:Value)(s:Dp)(op a b:Nat)(hM:DW w o rb p0 p1 p2 p3 p4 s) :
  Calls Tryz.prog 41 #[.pointer(some⟨rb,0,none⟩),.int .i64(op:Nat),.int .i64(a:Nat),.int .i64(b:Nat)] w(cH w o rb p0 p1 p2 p3 p4(s.puts op a b)(.int .i64(s.at1:Nat))):=by
 obtain⟨wl,vc,vn,vk,vw,q0,q1,q2,q3,q4⟩:=hM;obtain⟨⟨c4,c5,c6,c7,c8,c9,c10,c11⟩,cf⟩:=bT q0.1;obtain⟨aw,cw,rfl⟩:=q1.form;by_cases hl:32768<=s.ws.length
 ·have e1:s.puts op a b={ s with lg:=true }:=by unfold Dp.puts;rw[if_pos hl]
  have e2:s.at1=0:=by unfold Dp.at1;rw[if_pos hl]
  rw[e1,e2];have hlI:(32768:Int)<=(s.ws.length:Int):=by omega
  have f11:=cf 11;have T:aa(fun k=>k=1) w o(w.setCell⟨rb,11,none⟩(.bool true)) o:=(aa.refl _ w o).setCell⟨rb,11,none⟩ _ q0.2;have HZ:Hid(DW(w.setCell⟨rb,11,none⟩(.bool true)) o rb p0 p1 p2 p3 p4 { s with lg:=true }/\aa I17 w o(w.setCell⟨rb,11,none⟩(.bool true)) o) :=
   ⟨⟨wl,vc,vn,vk,_,q0.set 11(.bool true),q1.step T(by decide),q2.step T(by decide),q3.step T(by decide),q4.step T(by decide)⟩,T.mono(cC(by decide))⟩
  clear q0 q1 q2 q3 q4 T e1 e2 cf hl;go_enter Tryz.func41,Tryz.ntmps41;go_wp2;go_ret;exact⟨rfl,o,HZ.out⟩
 ·have e1:s.puts op a b={ s with ws:=s.ws++[⟨op,a,b⟩] }:=by unfold Dp.puts;rw[if_neg hl]
  have e2:s.at1=s.ws.length:=by unfold Dp.at1;rw[if_neg hl]
  rw[e1,e2];have hlI:¬(32768:Int)<=(s.ws.length:Int):=by omega
  obtain⟨ii,i1,i2,i3,i4⟩:=aH Ag;have HL:=Lib.hid hl;have q0h:=Lib.hid q0;have q2h:=Lib.hid q2;have q3h:=Lib.hid q3;have q4h:=Lib.hid q4;clear q0 q2 q3 q4 e1 e2 hl;go_enter Tryz.func41,Tryz.ntmps41;go_wp2_with(first|(at_builtin;refine aB rfl _ _ 78 rfl 85 ii(.agg #[.int .i64 0,.int .i64 0,.int .i64 0]) 3 24 Tryz.underlying78 i1 i2 i3 i4 rfl(by decide) o 2 _ s.ws.length(iJ s.ws) rfl(q1.step(aa.ofBelow(I:=fun _=>False) o(b1 _ _)) id)⟨w.heap.size,0,none⟩ 1 1 [.int .i64(op:Nat),.int .i64(a:Nat),.int .i64(b:Nat)] rfl rfl ?hn1 ?hn2(by decide) ?hn4 ?hn5 ?_)|go_in)
  case hn2=>exact⟨rfl,rfl,rfl⟩
  case hn4=>have:=HL.out;unfold maxLen;omega
  case hn5=>have:=HL.out;omega
  intro g2 cap2 w2 o2 R2 S2;have S1:∀ {I:Nat->Prop},aa I w o(w.alloc(.cells #[.int .i64(op:Nat),.int .i64(a:Nat),.int .i64(b:Nat)] 85)) o:=fun {I}=>aa.ofBelow(I:=I) o(b1 _ _);have S12:=(S1(I:=fun k=>k=2)).trans S2;have k0:=q0h.out.step S12(by decide);have T:aa(fun k=>k=1) w2 o2(w2.setCell⟨rb,8,none⟩(.slice(some⟨g2,0,none⟩)(s.ws.length+1) cap2)) o2:=(aa.refl _ w2 o2).setCell⟨rb,8,none⟩ _ k0.2;have R3:=R2.step T(by decide);have hll:(s.ws++[(⟨op,a,b⟩:Wo)]).length=s.ws.length+1:=by simp
  have HZ:Hid(DW(w2.setCell⟨rb,8,none⟩(.slice(some⟨g2,0,none⟩)(s.ws.length+1) cap2)) o2 rb p0 p1 p2 p3 p4 { s with ws:=s.ws++[⟨op,a,b⟩] }/\aa I17 w o(w2.setCell⟨rb,8,none⟩(.slice(some⟨g2,0,none⟩)(s.ws.length+1) cap2)) o2):=by
   have hl:=HL.out;refine⟨⟨by simp only[hll];omega,vc,vn,vk,_,k0.set 8 _,?_,(q2h.out.step S12(by decide)).step T(by decide),(q3h.out.step S12(by decide)).step T(by decide),(q4h.out.step S12(by decide)).step T(by decide)⟩,(S12.mono(cC(by decide))).trans(T.mono(cC(by decide)))⟩;simp only[hll,pQ];exact R3
  obtain⟨⟨d4,d5,d6,d7,d8,d9,d10,d11⟩,df⟩:=bT k0.1;have f8:=df 8;have hz:DW(w2.setCell⟨rb,8,none⟩(.slice(some⟨g2,0,none⟩)(s.ws.length+1) cap2)) o2 rb p0 p1 p2 p3 p4 { s with ws:=s.ws++[⟨op,a,b⟩] }:=HZ.out.1;have hc8:=k0.set 8(.slice(some⟨g2,0,none⟩)(s.ws.length+1) cap2);obtain⟨⟨-,-,-,-,m8,-,-,-⟩,-⟩:=bT hc8.1;have hsub:((s.ws.length+1:Nat):Int)-1=(s.ws.length:Int):=by omega
  clear q0h q2h q3h q4h S1 S12 S2 k0 T R3 R2 q1 hz hc8 hll df cf d4 d5 d6 d7 d9 d10 d11;go_wp2;go_ret;exact⟨by first|rfl|(simp;done)|(congr 1;simp),o2,HZ.out⟩
theorem bh (w:World)(o:Nat->Nat)(rb:Nat)(p0 p1 p2 p3 p4:Value)(s:Dp)(n:Int)(m:Nat)(hz:s.sz m)(hm:m<=1000000000)(hn:-1000000000<=n/\n<=1000000000)(hM:DW w o rb p0 p1 p2 p3 p4 s) :
  Calls Tryz.prog 77 #[.pointer(some⟨rb,0,none⟩),.int .i64 n] w(cH w o rb p0 p1 p2 p3 p4(s.grows n)(.tuple #[])):=by
 obtain⟨wl,vc,vn,vk,vw,q0,q1,q2,q3,q4⟩:=hM;obtain⟨-,-,z1,z2,z3,z4⟩:=hz;obtain⟨x,hx⟩:∃x,x=s.h+n:=⟨_,rfl⟩
 obtain⟨T,hT⟩:∃T,T=max s.top x:=⟨_,rfl⟩
 have e1:s.grows n={ s with h:=x,top:=T,lg:=s.lg||decide(1024<T) }:=by rw[hT,hx];rfl
 rw[e1];have HMX:Hid((if s.top<x then x else s.top)=T):=by show _=_;rw[hT];split<;>omega
 have HMY:Hid(max s.top x=T):=hT.symm;have HMZ:Hid(s.h+n=x):=hx.symm;have d1:∀ wx:World,aa(fun _=>False) wx o wx.drew o:=fun wx=>(aa.refl _ wx o).drew;have T1:aa(fun k=>k=1) w o(w.setCell⟨rb,9,none⟩(.int .i64 x)) o:=(aa.refl _ w o).setCell _ _ q0.2;have T2:=(T1.setCell⟨rb,10,none⟩(.int .i64 T) q0.2).drew;have r0:=q0.set 9(.int .i64 x);have r1:=(r0.set 10(.int .i64 T)).step(d1 _) id;obtain⟨⟨c4,c5,c6,c7,c8,c9,c10,c11⟩,cf⟩:=bT q0.1;obtain⟨⟨k4,k5,k6,k7,k8,k9,k10,k11⟩,kf⟩:=bT r0.1;obtain⟨⟨t4,t5,t6,t7,t8,t9,t10,t11⟩,tf⟩:=bT r1.1;have cf9:=cf 9;have kf10:=kf 10;have tf11:=tf 11;have HF0:Hid(¬1024<T->DW((w.setCell⟨rb,9,none⟩(.int .i64 x)).setCell⟨rb,10,none⟩(.int .i64 T)).drew o rb p0 p1 p2 p3 p4 { s with h:=x,top:=T,lg:=s.lg||decide(1024<T) }):=fun hb=>by
  refine⟨wl,vc,vn,vk,vw,?_,q1.step T2(by decide),q2.step T2(by decide),q3.step T2(by decide),q4.step T2(by decide)⟩;simp only[decide_eq_false hb,Bool.or_false];exact r1
 have T3:=T2.setCell⟨rb,11,none⟩(.bool true) q0.2;have HF1:Hid(1024<T->DW(((w.setCell⟨rb,9,none⟩(.int .i64 x)).setCell⟨rb,10,none⟩(.int .i64 T)).drew.setCell⟨rb,11,none⟩(.bool true)) o rb p0 p1 p2 p3 p4 { s with h:=x,top:=T,lg:=s.lg||decide(1024<T) }):=fun hb=>by
  refine⟨wl,vc,vn,vk,vw,?_,q1.step T3(by decide),q2.step T3(by decide),q3.step T3(by decide),q4.step T3(by decide)⟩;simp only[decide_eq_true hb,Bool.or_true];exact r1.set 11 _
 have HT:=Lib.hid(And.intro(T2.mono(cC(by decide)))(T3.mono(cC(by decide))));clear hT hx e1 T1 T2 T3 r0 r1 q0 q1 q2 q3 q4 d1 cf kf tf k4 k5 k6 k7 k8 k11 t4 t5 t6 t7 t8 t9 c4 c5 c6 c7 c8 c10;go_enter Tryz.func77,Tryz.ntmps77;go_upto_region 1 with fail;rw[HMZ.out];generalize w.setCell⟨rb,9,none⟩(.int .i64 x)=wA at *;go_region
 all_goals
  first|rw[HMX.out] | rw[HMY.out]
  generalize(wA.setCell⟨rb,10,none⟩(.int .i64 T)).drew=wB at *;by_cases hb:1024<T
  ·have F:=HF1.out hb;have G:=HT.out.2;clear HF0 HF1 HT HMX HMY HMZ;go_wp2
   go_end0
   exact⟨rfl,o,F,G⟩
  ·have F:=HF0.out hb;have G:=HT.out.1;clear HF0 HF1 HT HMX HMY HMZ;go_wp2
   go_end0
   exact⟨rfl,o,F,G⟩
theorem k_c (w:World)(o:Nat->Nat)(rb:Nat)(p0 p1 p2 p3 p4:Value)(s:Dp)(n:Int)(hl:s.cs.length<=100000000)(hM:DW w o rb p0 p1 p2 p3 p4 s) :
  Calls Tryz.prog 76 #[.pointer(some⟨rb,0,none⟩),.int .i64 n] w(cH w o rb p0 p1 p2 p3 p4(s.kI n)(.int .i64(s.cs.idxOf n:Nat))):=by
 have hM':=hM;obtain⟨wl,vc,vn,vk,vw,q0,q1,q2,q3,q4⟩:=hM;obtain⟨⟨c4,c5,c6,c7,c8,c9,c10,c11⟩,cf⟩:=bT q0.1;obtain⟨ii,i1,i2,i3,i4⟩:=aH oj;obtain⟨ao,cap,rfl⟩:=q2.form;have HC:Hid(∀ j,j<s.cs.length->∃g,ao=some⟨g,0,none⟩/\w.cell?⟨g,j,none⟩=some(.int .i64(s.cs.getD j 0))):=fun j hj=>by
  obtain⟨g,cap',e,-,-,-,-,hc,-⟩:=q2.pos(by omega);injection e with e1 e2 e3
  refine⟨g,e1,?_⟩;rw[hc j(by omega)];simp[eiV,hj,List.getD_eq_getElem?_getD]
 have q1h:=Lib.hid q1;have q3h:=Lib.hid q3;have q4h:=Lib.hid q4;have q0h:=Lib.hid q0;have HM:=Lib.hid hM';clear q0 q1 q3 q4 hM' c4 c6 c7 c8 c9 c10 c11 cf;go_enter Tryz.func76,Tryz.ntmps76;go_wp2_with fail;go_loopw [5](fun v wr=>∃i:Nat,v=.int .i64(i:Nat)/\i<=s.cs.length/\Hid(n ∉ s.cs.take i)/\wr=w)(fun v _=>s.cs.length-(intOf v).toNat)
 case atStart=>exact⟨0,by go_num,by omega,by show _ ∉ _;simp,rfl⟩
 case round =>
  obtain⟨i,rfl,hi,HN,rfl⟩:=hrel;by_cases hlt:i<s.cs.length
  ·have hkI:(i:Int)<(s.cs.length:Int):=by omega
   obtain⟨g,rfl,cg⟩:=HC.out i hlt;have hget:s.cs.getD i 0=s.cs[i]:=by simp[List.getD_eq_getElem?_getD,hlt]
   by_cases he:s.cs.getD i 0=n
   ·have hin:n ∈ s.cs:=by rw[<-he,hget];exact List.getElem_mem hlt
    have hix:s.cs.idxOf n=i:=by
     have h1:s.cs=s.cs.take i++s.cs.drop i:=(List.take_append_drop i s.cs).symm;rw[h1,List.idxOf_append,if_neg HN.out,List.drop_eq_getElem_cons hlt,<-hget,he];simp;omega
    have e1:s.kI n=s:=by unfold Dp.kI;rw[if_pos hin]
    rw[e1,hix];rw[he] at cg;clear HC q0h q1h q3h q4h he hget hin hix e1 q2 HN;go_wp2;go_ret;exact⟨rfl,o,HM.out,aa.refl _ _ _⟩
   ·have HN2:Hid(n ∉ s.cs.take(i+1)):=by
     show _ ∉ _;rw[List.take_succ_eq_append_getElem hlt];intro hm;rcases List.mem_append.1 hm with hm|hm
     ·exact HN.out hm
     ·simp at hm;exact he(by rw[hget,hm])
    generalize s.cs.getD i 0=y at *;clear HC q0h q1h q3h q4h hget q2 HN;go_wp2;go_roundw
    case rel=>(try((repeat apply Exists.intro);refine⟨?_,rfl⟩));exact⟨i+1,by go_num,by omega,HN2,by trivial⟩
    case measure=>simp[intOf];omega
  ·have hkI:¬(i:Int)<(s.cs.length:Int):=by omega
   obtain rfl:i=s.cs.length:=by omega
   have hin:n ∉ s.cs:=by have:=HN.out;rwa [List.take_length] at this
   have HX:Hid(s.kI n={ s with cs:=s.cs++[n] }/\s.cs.idxOf n=s.cs.length):=⟨by unfold Dp.kI;rw[if_neg hin],jq hin⟩
   have hn1:s.cs.length+1<=maxLen:=by unfold maxLen;omega
   have hn2:(s.cs.length+1)*8<=140737488355328:=by omega
   have pr:=q2.step(aa.ofBelow(I:=fun _=>False) o(b1 wr(.cells #[.int .i64 n] 3))) id;clear HC HN hin;go_wp2_with(first|(at_builtin;refine aB rfl _ _ 35 rfl 3 ii(.int .i64 0) 1 8 Tryz.underlying35 i1 i2 i3 i4 rfl(by decide) o 3(.slice ao s.cs.length cap) s.cs.length(eiV s.cs) rfl pr⟨wr.heap.size,0,none⟩ 1 1 [.int .i64 n] rfl rfl(cJ _ _ _)(f6 _ rfl)(by decide) hn1 hn2 ?_)|go_in);intro g1 cp w2 o2 R2 S2;have s2:aa(fun k=>k=3) wr o w2 o2:=(aa.ofBelow o(b1 wr _)).trans S2;have r0:=q0h.out.step s2(by decide);obtain⟨⟨d4,d5,d6,d7,d8,d9,d10,d11⟩,df⟩:=bT r0.1;have df5:=df 5;have s3:aa(fun k=>k=1) w2 o2(w2.setCell⟨rb,5,none⟩(.slice(some⟨g1,0,none⟩)(s.cs.length+1) cp)) o2:=bU _ w2 o2⟨rb,5,none⟩ _ r0.2;have HF:Hid(DW(w2.setCell⟨rb,5,none⟩(.slice(some⟨g1,0,none⟩)(s.cs.length+1) cp)) o2 rb p0 p1 p2 p3 p4(s.kI n)/\aa I17 wr o(w2.setCell⟨rb,5,none⟩(.slice(some⟨g1,0,none⟩)(s.cs.length+1) cp)) o2):=by
    rw[HX.out.1];refine⟨⟨wl,_,vn,vk,vw,r0.set 5 _,(q1h.out.step s2(by decide)).step s3(by decide),?_,(q3h.out.step s2(by decide)).step s3(by decide),(q4h.out.step s2(by decide)).step s3(by decide)⟩,(s2.mono(cC(by decide))).trans(s3.mono(cC(by decide)))⟩
    have:=R2.step s3(by decide)
    have e:(s.cs++[n]).length=s.cs.length+1:=by simp
    have e2:eiV(s.cs++[n])=eiV s.cs++[.int .i64 n]:=by simp[eiV]
    simp only[e,e2];exact this
   have rz:=r0.set 5(.slice(some⟨g1,0,none⟩)(s.cs.length+1) cp);obtain⟨⟨-,m5,-,-,-,-,-,-⟩,-⟩:=bT rz.1;have HI:Hid(s.cs.idxOf n=s.cs.length):=HX.out.2;have hsub:((s.cs.length+1:Nat):Int)-1=(s.cs.length:Int):=by omega
   clear s2 s3 R2 S2 pr r0 rz q0h q1h q3h q4h q2 HX d4 d6 d7 d8 d9 d10 d11 df HM;go_wp2;go_ret;exact⟨by rw[HI.out];first|rfl|(simp;done)|(congr 1;simp),o2,HF.out⟩
theorem s_c (w:World)(o:Nat->Nat)(rb:Nat)(p0 p1 p2 p3 p4:Value)(s:Dp)(n:List UInt8)(hk:n.length<=maxLen)(hl:s.ns.length<=100000000)(hM:DW w o rb p0 p1 p2 p3 p4 s) :
  Calls Tryz.prog 212 #[.pointer(some⟨rb,0,none⟩),stv n] w(cH w o rb p0 p1 p2 p3 p4(s.kN n)(.int .i64(s.ns.idxOf n:Nat))):=by
 have hM':=hM;obtain⟨wl,vc,vn,vk,vw,q0,q1,q2,q3,q4⟩:=hM;obtain⟨⟨c4,c5,c6,c7,c8,c9,c10,c11⟩,cf⟩:=bT q0.1;obtain⟨ii,i1,i2,i3,i4⟩:=aH sv;obtain⟨ao,cap,rfl⟩:=q3.form;have HC:Hid(∀ j,j<s.ns.length->∃g,ao=some⟨g,0,none⟩/\w.cell?⟨g,j,none⟩=some(stv(s.ns.getD j []))):=fun j hj=>by
  obtain⟨g,cap',e,-,-,-,-,hc,-⟩:=q3.pos(by omega);injection e with e1 e2 e3
  refine⟨g,e1,?_⟩;rw[hc j(by omega)];simp[esV,hj,List.getD_eq_getElem?_getD]
 have q1h:=Lib.hid q1;have q2h:=Lib.hid q2;have q4h:=Lib.hid q4;have q0h:=Lib.hid q0;have HM:=Lib.hid hM';clear q0 q1 q2 q4 hM' c4 c5 c7 c8 c9 c10 c11 cf;go_enter Tryz.func212,Tryz.ntmps212;go_wp2_with fail;go_loopw [5](fun v wr=>∃i:Nat,v=.int .i64(i:Nat)/\i<=s.ns.length/\Hid(n ∉ s.ns.take i)/\wr=w)(fun v _=>s.ns.length-(intOf v).toNat)
 case atStart=>exact⟨0,by go_num,by omega,by show _ ∉ _;simp,rfl⟩
 case round =>
  obtain⟨i,rfl,hi,HN,rfl⟩:=hrel;by_cases hlt:i<s.ns.length
  ·have hkI:(i:Int)<(s.ns.length:Int):=by omega
   obtain⟨g,rfl,cg⟩:=HC.out i hlt;have hget:s.ns.getD i []=s.ns[i]:=by simp[List.getD_eq_getElem?_getD,hlt]
   by_cases he:s.ns.getD i []=n
   ·have hin:n ∈ s.ns:=by rw[<-he,hget];exact List.getElem_mem hlt
    have hix:s.ns.idxOf n=i:=by
     have h1:s.ns=s.ns.take i++s.ns.drop i:=(List.take_append_drop i s.ns).symm;rw[h1,List.idxOf_append,if_neg HN.out,List.drop_eq_getElem_cons hlt,<-hget,he];simp;omega
    have e1:s.kN n=s:=by unfold Dp.kN;rw[if_pos hin]
    rw[e1,hix];rw[he] at cg;clear HC q0h q1h q2h q4h he hget hin hix e1 q3 HN;go_wp2;go_ret;exact⟨rfl,o,HM.out,aa.refl _ _ _⟩
   ·have HN2:Hid(n ∉ s.ns.take(i+1)):=by
     show _ ∉ _;rw[List.take_succ_eq_append_getElem hlt];intro hm;rcases List.mem_append.1 hm with hm|hm
     ·exact HN.out hm
     ·simp at hm;exact he(by rw[hget,hm])
    generalize s.ns.getD i []=y at *;have hyn2:(y==n)=false:=by simpa using he
    clear HC q0h q1h q2h q4h hget q3 HN;go_wp2;go_roundw
    case rel=>(try((repeat apply Exists.intro);refine⟨?_,rfl⟩));exact⟨i+1,by go_num,by omega,HN2,by trivial⟩
    case measure=>simp[intOf];omega
  ·have hkI:¬(i:Int)<(s.ns.length:Int):=by omega
   obtain rfl:i=s.ns.length:=by omega
   have hin:n ∉ s.ns:=by have:=HN.out;rwa [List.take_length] at this
   have HX:Hid(s.kN n={ s with ns:=s.ns++[n] }/\s.ns.idxOf n=s.ns.length):=⟨by unfold Dp.kN;rw[if_neg hin],jq hin⟩
   have hn1:s.ns.length+1<=maxLen:=by unfold maxLen;omega
   have hn2:(s.ns.length+1)*16<=140737488355328:=by omega
   have pr:=q3.step(aa.ofBelow(I:=fun _=>False) o(b1 wr(.cells #[stv n] 9))) id;clear HC HN hin;go_wp2_with(first|(at_builtin;refine aB rfl _ _ 40 rfl 9 ii(.string⟨#[]⟩) 1 16 Tryz.underlying40 i1 i2 i3 i4 rfl(by decide) o 4(.slice ao s.ns.length cap) s.ns.length(esV s.ns) rfl pr⟨wr.heap.size,0,none⟩ 1 1 [stv n] rfl rfl(cJ _ _ _)(f6 _ rfl)(by decide) hn1 hn2 ?_)|go_in);intro g1 cp w2 o2 R2 S2;have s2:aa(fun k=>k=4) wr o w2 o2:=(aa.ofBelow o(b1 wr _)).trans S2;have r0:=q0h.out.step s2(by decide);obtain⟨⟨d4,d5,d6,d7,d8,d9,d10,d11⟩,df⟩:=bT r0.1;have df5:=df 6;have s3:aa(fun k=>k=1) w2 o2(w2.setCell⟨rb,6,none⟩(.slice(some⟨g1,0,none⟩)(s.ns.length+1) cp)) o2:=bU _ w2 o2⟨rb,6,none⟩ _ r0.2;have HF:Hid(DW(w2.setCell⟨rb,6,none⟩(.slice(some⟨g1,0,none⟩)(s.ns.length+1) cp)) o2 rb p0 p1 p2 p3 p4(s.kN n)/\aa I17 wr o(w2.setCell⟨rb,6,none⟩(.slice(some⟨g1,0,none⟩)(s.ns.length+1) cp)) o2):=by
    rw[HX.out.1];refine⟨⟨wl,vc,_,vk,vw,r0.set 6 _,(q1h.out.step s2(by decide)).step s3(by decide),(q2h.out.step s2(by decide)).step s3(by decide),?_,(q4h.out.step s2(by decide)).step s3(by decide)⟩,(s2.mono(cC(by decide))).trans(s3.mono(cC(by decide)))⟩
    have:=R2.step s3(by decide)
    have e:(s.ns++[n]).length=s.ns.length+1:=by simp
    have e2:esV(s.ns++[n])=esV s.ns++[stv n]:=by simp[esV]
    simp only[e,e2];exact this
   have rz:=r0.set 6(.slice(some⟨g1,0,none⟩)(s.ns.length+1) cp);obtain⟨⟨-,-,m6,-,-,-,-,-⟩,-⟩:=bT rz.1;have HI:Hid(s.ns.idxOf n=s.ns.length):=HX.out.2;have hsub:((s.ns.length+1:Nat):Int)-1=(s.ns.length:Int):=by omega
   clear s2 s3 R2 S2 pr r0 rz q0h q1h q2h q4h q3 HX d4 d5 d7 d8 d9 d10 d11 df HM;go_wp2;go_ret;exact⟨by rw[HI.out];first|rfl|(simp;done)|(congr 1;simp),o2,HF.out⟩
theorem du (w:World)(o:Nat->Nat)(rb:Nat)(p0 p1 p2 p3 p4:Value)(s:Dp)(n:Int)(kd m:Nat)(hz:s.sz m)(hm:m+2<=100000000)(hM:DW w o rb p0 p1 p2 p3 p4 s) :
  Calls Tryz.prog 75 #[.pointer(some⟨rb,0,none⟩),.int .i64 n,.int .i64(kd:Nat)] w(cH w o rb p0 p1 p2 p3 p4(s.val n kd)(.tuple #[])):=by
 have H1:=k_c w o rb p0 p1 p2 p3 p4 s n(by have:=hz.c;omega) hM;have hz2:=(as(s.kI n) 1(s.cs.idxOf n) kd).sz _((lz s n).sz m hz);clear hM;go_enter Tryz.func75,Tryz.ntmps75;go_wp2_with(first|(go_at_call 76;refine H1.mono ?_;rintro e w2⟨rfl,o2,E2,S2⟩;have H2:=aS w2 o2 rb p0 p1 p2 p3 p4(s.kI n) 1(s.cs.idxOf n) kd E2)|(go_at_call 41;refine H2.mono ?_;rintro e w3⟨rfl,o3,E3,S3⟩;have H3:=bh w3 o3 rb p0 p1 p2 p3 p4 _ 1 _ hz2(by omega)(by omega) E3)|(go_at_call 77;refine H3.mono ?_;rintro e w4⟨rfl,o4,E4,S4⟩))
 go_end0
 exact⟨rfl,o4,E4,(S2.trans S3).trans S4⟩
theorem po:∀ {l:List Wo}{i j:Nat}{x:Wo}{u:Value} (hi:i<l.length),(j=1\/j=2)->(fX l[i]).set j u=fX x->(iJ l).set (i*3+j) u=iJ (l.set i x)
 | y::l,0,j,x,u,_,hj,h=>by
  have h':(fX y).set j u=fX x:=h;simp only[iJ,List.set_cons_zero,Nat.zero_mul,Nat.zero_add];rw[List.set_append_left _ _(by simp[fX];omega),h']
 | y::l,i+1,j,x,u,hi,hj,h=>by
  have hi':i<l.length:=by simpa using hi
  have h':(fX l[i]).set j u=fX x:=h;simp only[iJ,List.set_cons_succ];rw[List.set_append_right _ _(by simp[fX];omega),<-po hi' hj h']
  congr 2
  simp[fX];omega
theorem db (w:World)(o:Nat->Nat)(rb:Nat)(p0 p1 p2 p3 p4:Value)(s:Dp)(i:Nat)(hi:s.lg=false->i<s.ws.length)(hM:DW w o rb p0 p1 p2 p3 p4 s) :
  Calls Tryz.prog 138 #[.pointer(some⟨rb,0,none⟩),.int .i64(i:Nat)] w(cH w o rb p0 p1 p2 p3 p4(s.lands i)(.tuple #[])):=by
 have hM':=hM;obtain⟨wl,vc,vn,vk,vw,q0,q1,q2,q3,q4⟩:=hM;obtain⟨⟨c4,c5,c6,c7,c8,c9,c10,c11⟩,cf⟩:=bT q0.1;by_cases hlg:s.lg=true
 ·have e1:s.lands i=s:=by unfold Dp.lands;rw[if_pos hlg]
  rw[e1];rw[hlg] at c11;have HM:=Lib.hid hM';clear q0 q1 q2 q3 q4 hM' e1 hi;go_enter Tryz.func138,Tryz.ntmps138;go_wp2
  go_end0
  exact⟨rfl,o,HM.out,aa.refl _ _ _⟩
 ·have hlf:s.lg=false:=by simpa using hlg
  have hil:=hi hlf;have e1:s.lands i={ s with ws:=s.ws.set i((s.ws[i]).to s.ws.length) }:=by unfold Dp.lands;rw[if_neg hlg,nH hil]
  rw[e1];rw[hlf] at c11;obtain⟨g,cap,rfl,og,-,-,hgl,hc,hf⟩:=q1.pos(by omega);have hat:∀ j,j<3->w.cell?⟨g,i*3+j,none⟩=(fX s.ws[i])[j]?:=fun j hj=>by
   rw[hc(i*3+j)(by omega),n6 s.ws i j s.ws[i](List.getElem?_eq_getElem hil) hj]
  have f1:=hf(i*3+1);have f2:=hf(i*3+2);have d1:∀ wx:World,aa(fun _=>False) wx o wx.drew o:=fun wx=>(aa.refl _ wx o).drew;have HS:Hid(∀ j,j=1\/j=2->(fX s.ws[i]).set j(.int .i64(s.ws.length:Nat))=fX((s.ws[i]).to s.ws.length)->DW(w.setCell⟨g,i*3+j,none⟩(.int .i64(s.ws.length:Nat))).drew o rb p0 p1 p2 p3 p4 { s with ws:=s.ws.set i((s.ws[i]).to s.ws.length) }/\aa I17 w o(w.setCell⟨g,i*3+j,none⟩(.int .i64(s.ws.length:Nat))).drew o):=fun j hj he=>by
   have T:aa(fun k=>k=2) w o(w.setCell⟨g,i*3+j,none⟩(.int .i64(s.ws.length:Nat))).drew o:=((aa.refl _ w o).setCell _ _ og).drew;refine⟨⟨by simp;exact wl,vc,vn,vk,_,q0.step T(by decide),?_,q2.step T(by decide),q3.step T(by decide),q4.step T(by decide)⟩,T.mono(cC(by decide))⟩;have r1:=(q1.store(i*3+j)(.int .i64(s.ws.length:Nat))).step(d1 _) id;have e3:(s.ws.set i((s.ws[i]).to s.ws.length)).length=s.ws.length:=by simp
   simp only[e3];rw[<-po hil hj he];exact r1
  have hiI:(i:Int)<(s.ws.length:Int):=by omega
  obtain⟨⟨op,oa,ob⟩,hx⟩:∃x,x=s.ws[i]:=⟨_,rfl⟩
  rw[<-hx] at hat HS ⊢;have x0:w.cell?⟨g,i*3,none⟩=some(.int .i64(op:Nat)):=hat 0(by omega);have x1:w.cell?⟨g,i*3+1,none⟩=some(.int .i64(oa:Nat)):=hat 1(by omega);have x2:w.cell?⟨g,i*3+2,none⟩=some(.int .i64(ob:Nat)):=hat 2(by omega);by_cases ho:op=17
  ·subst ho;have F:=Lib.hid(HS.out 2(.inr rfl) rfl);clear HS q0 q1 q2 q3 q4 hM' e1 hi hc hf hat d1 hx c5 c6 c7 c9 c10 cf;go_enter Tryz.func138,Tryz.ntmps138;go_upto_region 2 with fail;go_region
   all_goals
    go_end0
    exact⟨rfl,o,F.out⟩
  ·have hop:((op:Int)==17)=false:=by simp;omega
   have hto:(⟨op,oa,ob⟩:Wo).to s.ws.length=⟨op,s.ws.length,ob⟩:=by unfold Wo.to;rw[if_neg ho]
   have F:=Lib.hid(HS.out 1(.inl rfl)(by rw[hto];rfl));clear HS q0 q1 q2 q3 q4 hM' e1 hi hc hf hat d1 hx c5 c6 c7 c9 c10 cf hto;go_enter Tryz.func138,Tryz.ntmps138;go_upto_region 3 with fail;go_region
   all_goals
    go_end0
    exact⟨rfl,o,F.out⟩
structure Rl (K:Nat->Int)(u:Nat)(s:Em)(d:Dp):Prop where
 ok:okQ s
 ul:u<=s.dp
 ws:d.ws=s.ws
 cs:d.cs=s.cs
 ns:d.ns=s.ns
 kl:d.ks.length=s.ks.length
 ks:∀ i,i<s.ks.length->(d.ks.getD i 0=0/\s.ks.getD i 0=1)\/(d.ks.getD i 0=K i/\s.ks.getD i 0=K i)
 h:d.h=(u:Int)
 top:d.top=(s.dp:Int)
 lg:d.lg=false
def Ry (K:Nat->Int)(u:Nat)(s:Em)(d:Dp):Prop:=(okQ s->Rl K u s d)/\(¬okQ s->d.lg=true)
theorem Ry.step {K:Nat->Int}{u v:Nat}{s t:Em}{d e:Dp}(h:Ry K u s d)(q:Qle s t)(k:d.lg=true->e.lg=true)(r:Rl K u s d->Ry K v t e):Ry K v t e:=by
 by_cases o:okQ s
 ·exact r(h.1 o)
 ·exact⟨fun o'=>absurd(q.ok o') o,fun _=>k(h.2 o)⟩
theorem Ry.of {K:Nat->Int}{u:Nat}{s:Em}{d:Dp}(h:Rl K u s d):Ry K u s d:=⟨fun _=>h,fun n=>absurd h.ok n⟩
theorem bI {K:Nat->Int}{u:Nat}{s:Em}{d:Dp}(op a a' b:Nat)(h:Ry K u s d)(ha:okQ s->a'=a):Ry K u (s.lay op a b) (d.puts op a' b):=by
 refine h.step(aN s op a b)(as d op a' b).lg(fun r=>?_);rw[ha r.ok];unfold Dp.puts;rw[r.ws];by_cases hl:32768<=s.ws.length
 ·rw[if_pos hl];exact⟨fun o=>by have:=o.1;simp[Em.lay] at this;omega,fun _=>rfl⟩
 ·rw[if_neg hl];refine Ry.of⟨⟨by simp[Em.lay];omega,r.ok.2⟩,r.ul,?_,r.cs,r.ns,r.kl,r.ks,r.h,r.top,r.lg⟩;simp[Em.lay]
def Em.up (s:Em)(u:Nat):Em:=⟨s.ws,s.cs,s.ns,s.ks,max s.dp (u+1)⟩
theorem AM (s:Em)(op a b u:Nat):s.push op a b u=(s.lay op a b).up u:=rfl
theorem Ci (s:Em)(u:Nat):Qle s (s.up u):=⟨Nat.le_refl _,by simp only[Em.up];omega⟩
theorem D9 {K:Nat->Int}{u:Nat}{s:Em}{d:Dp}(h:Ry K u s d):Ry K (u+1) (s.up u) (d.grows 1):=by
 refine h.step(Ci s u)(aP d 1 1(by omega)(by omega)).lg(fun r=>?_);have e1:max d.top(d.h+1)=((max s.dp(u+1):Nat):Int):=by rw[r.top,r.h];omega
 by_cases hm:max s.dp(u+1)<=1024
 ·refine Ry.of⟨⟨r.ok.1,hm⟩,by simp only[Em.up];omega,r.ws,r.cs,r.ns,r.kl,r.ks,?_,?_,?_⟩
  ·simp only[Dp.grows];rw[r.h];omega
  ·simp only[Dp.grows];exact e1
  ·simp only[Dp.grows,r.lg,e1];simp;omega
 ·refine⟨fun o=>absurd o.2 hm,fun _=>?_⟩;simp only[Dp.grows,e1];simp;right;omega
theorem bV {K:Nat->Int}{u:Nat}{s:Em}{d:Dp}(v:Nat)(x:Int)(h:Ry K u s d)(hv:v<=u)(hx:x=(v:Int)-(u:Int)):Ry K v s (d.grows x):=by
 refine h.step(Qle.refl s)(fun h=>by simp[Dp.grows,h])(fun r=>?_);have hu:=r.ul;have hd:=r.ok.2;have e1:max d.top(d.h+x)=(s.dp:Int):=by rw[r.top,r.h];omega
 refine Ry.of⟨r.ok,by omega,r.ws,r.cs,r.ns,r.kl,r.ks,?_,?_,?_⟩
 ·simp only[Dp.grows];rw[r.h];omega
 ·simp only[Dp.grows];exact e1
 ·simp only[Dp.grows,r.lg,e1];simp;omega
theorem oD {K:Nat->Int}{u:Nat}{s:Em}{d:Dp}(op a a' b:Nat)(h:Ry K u s d)(ha:okQ s->a'=a):Ry K (u+1) (s.push op a b u) ((d.puts op a' b).grows 1):=by
 rw[AM];exact D9(bI op a a' b h ha)
theorem BC {K:Nat->Int}{u:Nat}{s:Em}{d:Dp}(n:Int)(h:Ry K u s d):Ry K u (s.kc n) (d.kI n):=by
 refine h.step(sC s n)(lz d n).lg(fun r=>?_);exact Ry.of⟨r.ok,r.ul,r.ws,by simp only[Em.kc,Dp.kI,r.cs],r.ns,r.kl,r.ks,r.h,r.top,r.lg⟩
theorem DT {K:Nat->Int}{u:Nat}{s:Em}{d:Dp}(n:List UInt8)(h:Ry K u s d):Ry K u (s.kn n) (d.kN n):=by
 refine h.step(xI s n)(rj d n).lg(fun r=>?_);exact Ry.of⟨r.ok,r.ul,r.ws,r.cs,by simp only[Em.kn,Dp.kN,r.ns],r.kl,r.ks,r.h,r.top,r.lg⟩
theorem fo {K:Nat->Int}{u:Nat}{s:Em}{d:Dp}(n:Int)(kd:Nat)(h:Ry K u s d):Ry K (u+1) (s.con n kd u) (d.val n kd) :=
 oD 1 _ _ kd(BC n h)(fun o=>by rw[(h.1 o).cs])
theorem ib {K:Nat->Int}{u:Nat}{s:Em}{d:Dp}(i i':Nat)(h:Ry K u s d)(hi:okQ s->i'=i):Ry K u (s.land i) (d.lands i'):=by
 refine h.step(eA s i)(aY d i').lg(fun r=>?_);rw[hi r.ok];unfold Dp.lands;rw[if_neg(by rw[r.lg];decide),r.ws];exact Ry.of⟨⟨by simp[Em.land];exact r.ok.1,r.ok.2⟩,r.ul,rfl,r.cs,r.ns,r.kl,r.ks,r.h,r.top,r.lg⟩
theorem ly {l:List Int}{i j:Nat}{k x:Int}:(l.set i k).getD j x=if i=j/\i<l.length then k else l.getD j x:=by
 rw[List.getD_eq_getElem?_getD,List.getD_eq_getElem?_getD,List.getElem?_set];by_cases e:i=j
 ·subst e;by_cases hl:i<l.length
  ·rw[if_pos rfl,if_pos hl,if_pos⟨rfl,hl⟩];rfl
  ·rw[if_pos rfl,if_neg hl,if_neg(fun h=>hl h.2),List.getElem?_eq_none(by omega)]
 ·rw[if_neg e,if_neg(fun h=>e h.1)]
theorem Ds {K:Nat->Int}{u:Nat}{s:Em}{d:Dp}(i:Nat)(k:Int)(h:Ry K u s d)(hk:k=K i):Ry K u (s.cel i k) (d.cel i k):=by
 refine h.step(tb s i k)(nQ d i k).lg(fun r=>?_);subst hk;have hkl:=r.kl;unfold Dp.cel;by_cases h0:d.ks.getD i 0=0
 ·rw[if_pos h0];refine Ry.of⟨r.ok,r.ul,r.ws,r.cs,r.ns,by simp[Em.cel];exact r.kl,fun j hj=>?_,r.h,r.top,r.lg⟩;simp only[Em.cel,List.length_set] at hj ⊢;rw[ly,ly];by_cases e:i=j
  ·subst e;rw[if_pos⟨rfl,by omega⟩,if_pos⟨rfl,by omega⟩];exact .inr⟨rfl,rfl⟩
  ·rw[if_neg(fun h=>e h.1),if_neg(fun h=>e h.1)];exact r.ks j hj
 ·rw[if_neg h0];refine Ry.of⟨r.ok,r.ul,r.ws,r.cs,r.ns,by simp[Em.cel];exact r.kl,fun j hj=>?_,r.h,r.top,r.lg⟩;simp only[Em.cel,List.length_set] at hj ⊢;rw[ly];by_cases e:i=j
  ·subst e;rw[if_pos⟨rfl,hj⟩];rcases r.ks i hj with h1|h1
   ·exact absurd h1.1 h0
   ·exact .inr⟨h1.1,rfl⟩
  ·rw[if_neg(fun h=>e h.1)];exact r.ks j hj
theorem jV {K:Nat->Int}{u:Nat}{s t:Em}{d:Dp}(h:Ry K u s d)(q:Qle s t)(hl:s.ws.length+1<=t.ws.length)(o:okQ t):d.at1=s.ws.length:=by
 have r:=h.1(q.ok o);unfold Dp.at1;rw[r.ws,if_neg(by have:=o.1;omega)]
theorem yv {K:Nat->Int}{u:Nat}{s t:Em}{d:Dp}(h:Ry K u s d)(q:Qle s t)(o:okQ t):d.ws.length=s.ws.length:=by
 rw[(h.1(q.ok o)).ws]
structure Rp (K:Nat->Int)(b:Nat)(t:Tr)(d:Td):Prop where
 q:Qtr t
 k:∀ ar s,s.lg=true->(d ar s).lg=true
 r:∀ ar u s e,Ry K u s e->Ry K(u+b)(t ar u s)(d ar e)
def Rps (K:Nat->Int):List Tr->List Td->Int->Nat->Prop
 | [],[],_,_=>True
 | t::T,d::D,pk,i=>Rp K(if pk=21/\i=0 then 0 else 1) t d/\Rps K T D pk(i+1)
 | _,_,_,_=>False
theorem xp {K:Nat->Int}(ar u pk:Int)(hp:pk≠21):∀ (T:List Tr) (D:List Td) (i j ar u:Nat) (s:Em) (e:Dp),Rps K T D pk i->Ry K (u+j) s e->Ry K (u+j+T.length) (kH T j ar u s) (cR D ar e)
 | [],[],_,_,_,_,_,_,_,h=>h
 | t::T,d::D,i,j,ar,u,s,e,hT,h=>by
  have h1:=hT.1.r ar(u+j) s e h;rw[if_neg(fun h=>hp h.1)] at h1;have h2:=xp 0 0 pk hp T D(i+1)(j+1) ar u _ _ hT.2 h1;simp only[List.length_cons,kH,cR];rw[show u+j+(T.length+1)=u+(j+1)+T.length by omega];exact h2
 | [],d::D,_,_,_,_,_,_,h,_=>by simp[Rps] at h
 | t::T,[],_,_,_,_,_,_,h,_=>by simp[Rps] at h
theorem kR {K:Nat->Int}{pk:Int}:∀ (T:List Tr) (D:List Td) (i j:Nat),Rps K T D pk i->j<T.length->Rp K (if pk=21/\i+j=0 then 0 else 1) (T.getD j noT) (D.getD j noD)
 | t::T,d::D,i,0,h,_=>h.1
 | t::T,d::D,i,j+1,h,hj=>by
  have:=kR T D(i+1) j h.2(by simpa using hj)
  rw[show i+1+j=i+(j+1) by omega] at this;simpa using this
 | [],_,_,_,_,h=>by simp at h
 | t::T,[],_,_,h,_=>by simp[Rps] at h
theorem ue {K:Nat->Int}{pk:Int}:∀ (T:List Tr) (D:List Td) (i:Nat),Rps K T D pk i->D.length=T.length
 | [],[],_,_=>rfl
 | t::T,d::D,i,h=>by simp only[List.length_cons,ue T D(i+1) h.2]
 | [],d::D,_,h=>by simp[Rps] at h
 | t::T,[],_,h=>by simp[Rps] at h
theorem oc {K:Nat->Int}{u:Nat}(h:Nat):∀ (l:List Int) (i:Nat) (s:Em) (e:Dp),Ry K u s e->Ry K u (eC h l i s) (fB h l i e)
 | [],_,_,_,r=>r
 | x::l,i,s,e,r=>by
  unfold eC fB;refine r.step ?_ ?_(fun q=>?_)
  ·split
   ·exact(aN s 19 i 0).trans(dS h l(i+1) _)
   ·exact dS h l(i+1) s
  ·intro hl;rw[if_pos hl];exact hl
  ·by_cases hx:x=(h:Int)
   ·rw[if_pos hx,if_neg(by rw[q.lg];decide),if_pos hx];exact oc h l(i+1) _ _(bI 19 i i 0 r(fun _=>rfl))
   ·rw[if_neg hx,if_neg(by rw[q.lg];decide),if_neg hx];exact oc h l(i+1) _ _ r
theorem im (s:Em)(op a b:Nat):(s.lay op a b).ws.length=s.ws.length+1:=by simp[Em.lay]
theorem Am (s:Em)(n:Int)(kd u:Nat):(s.con n kd u).ws.length=s.ws.length+1:=by simp[Em.con,Em.push,Em.kc]
theorem DB {K:Nat->Int}(k:Int){t0 t1 t2:Tr}{d0 d1 d2:Td}(h0:Rp K 1 t0 d0)(h1:Rp K 1 t1 d1)(h2:k≠17->k≠18->Rp K 1 t2 d2)(ar u:Nat)(s:Em)(e:Dp)(h:Ry K u s e) :
  Ry K(u+1)((t0 ar u s).fork(if k=18 then 15 else 14)(t1 ar u)(fun x=>if k=17 then x.con 0 2 u else if k=18 then x.con 1 2 u else t2 ar u x))(xy k d0 d1 d2 ar e):=by
 unfold Em.fork xy
 dsimp only
 generalize hop:(if k=18 then 15 else 14)=op;have ra:=h0.r ar u s e h;generalize t0 ar u s=A at ra ⊢;generalize d0 ar e=a at ra ⊢;have rb:Ry K u(A.lay op 0 0)((a.puts op 0 0).grows(-1)):=bV u(-1)(bI op 0 0 0 ra(fun _=>rfl))(by omega)(by omega);have rc:=h1.r ar u _ _ rb;have qc:=h1.q ar u(A.lay op 0 0);generalize t1 ar u(A.lay op 0 0)=C at rc qc ⊢;generalize d1 ar((a.puts op 0 0).grows(-1))=c at rc ⊢;have rd:Ry K u(C.lay 13 0 0)((c.puts 13 0 0).grows(-1)):=bV u(-1)(bI 13 0 0 0 rc(fun _=>rfl))(by omega)(by omega);have hA:=im A op 0 0;have hqc:=qc.ws;have re:=ib A.ws.length a.at1 rd(fun o=>jV ra(((aN A op 0 0).trans qc).trans(aN C 13 0 0))(by rw[im];omega) o);have qe:Qle C((C.lay 13 0 0).land A.ws.length):=(aN C 13 0 0).trans(eA _ _);have le:C.ws.length+1<=((C.lay 13 0 0).land A.ws.length).ws.length:=by simp[Em.land,Em.lay]
 generalize(C.lay 13 0 0).land A.ws.length=E at re qe le ⊢;generalize((c.puts 13 0 0).grows(-1)).lands a.at1=e' at re ⊢;have hf:Ry K(u+1)(if k=17 then E.con 0 2 u else if k=18 then E.con 1 2 u else t2 ar u E)(if k=17 then e'.val 0 2 else if k=18 then e'.val 1 2 else d2 ar e')/\Qle E(if k=17 then E.con 0 2 u else if k=18 then E.con 1 2 u else t2 ar u E):=by
  by_cases k17:k=17
  ·rw[if_pos k17,if_pos k17];exact⟨fo 0 2 re,cL _ _ _ _⟩
  ·rw[if_neg k17,if_neg k17];by_cases k18:k=18
   ·rw[if_pos k18,if_pos k18];exact⟨fo 1 2 re,cL _ _ _ _⟩
   ·rw[if_neg k18,if_neg k18];exact⟨(h2 k17 k18).r ar u _ _ re,(h2 k17 k18).q ar u E⟩
 exact ib _ _ hf.1(fun o=>jV rc(qe.trans hf.2)(Nat.le_trans le hf.2.ws) o)
theorem Aa {K:Nat->Int}(n:Nat)(kd:Int)(hkd:kd=K n){t0:Tr}{d0:Td}(h0:Rp K 1 t0 d0)(ar u:Nat)(s:Em)(e:Dp)(h:Ry K u s e) :
  Ry K(u+1)(((t0 ar u((s.cel n kd).lay 17 n 0)).lay 18 n 0).land s.ws.length)(sG n kd d0 ar e):=by
 unfold sG;have rc:=Ds n kd h hkd;have ra:=bI 17 n n 0 rc(fun _=>rfl);have rb:=h0.r ar u _ _ ra;have qb:=h0.q ar u((s.cel n kd).lay 17 n 0);have hA:=im(s.cel n kd) 17 n 0;have hw:(s.cel n kd).ws.length=s.ws.length:=rfl;have hq:=qb.ws;refine ib _ _(bI 18 n n 0 rb(fun _=>rfl))(fun o=>?_);show _=(s.cel n kd).ws.length;exact jV rc(((aN _ _ _ _).trans qb).trans(aN _ _ _ _))(by rw[im];omega) o
theorem CI {K:Nat->Int}(n:Int)(hn:n=1\/n=2)(g i g' i':Nat)(u:Nat)(X:Em)(e:Dp)(h:Ry K (u+1) X e)(hg:okQ X->g'=g/\i'=i) :
  Ry K(u+1)(((((((X.lay(if n=2 then 14 else 15) g 0).lay 25 0 0).con(if n=2 then 1 else 0) 2 u).lay 13 0 0).land i).con(if n=2 then 0 else 1) 2 u).land((((X.lay(if n=2 then 14 else 15) g 0).lay 25 0 0).con(if n=2 then 1 else 0) 2 u).ws.length))(nT n g' i' e):=by
 unfold nT
 dsimp only
 generalize(if n=2 then 14 else 15)=op;generalize(if n=2 then(1:Int) else 0)=x;generalize(if n=2 then(0:Int) else 1)=y;have ra:Ry K u(X.lay op g 0)((e.puts op g' 0).grows(-1)):=bV u(-1)(bI op g g' 0 h(fun o=>(hg o).1))(by omega)(by omega);have rb:=fo x 2(bI 25 0 0 0 ra(fun _=>rfl));have qx:Qle X(((X.lay op g 0).lay 25 0 0).con x 2 u):=((aN _ _ _ _).trans(aN _ _ _ _)).trans(cL _ _ _ _);generalize((X.lay op g 0).lay 25 0 0).con x 2 u=C at rb qx ⊢;generalize(((e.puts op g' 0).grows(-1)).puts 25 0 0).val x 2=c at rb ⊢;have rd:Ry K u(C.lay 13 0 0)((c.puts 13 0 0).grows(-1)):=bV u(-1)(bI 13 0 0 0 rb(fun _=>rfl))(by omega)(by omega);have re:=ib i i' rd(fun o=>(hg((qx.trans(aN C 13 0 0)).ok o)).2);have rf:=fo y 2 re;refine ib _ _ rf(fun o=>jV rb(((aN C 13 0 0).trans(eA _ _)).trans(cL _ _ _ _)) ?_ o);rw[Am];simp[Em.land,Em.lay]
theorem CQ {K:Nat->Int}(n:Int)(hn:3<=n)(g g' u v:Nat)(X:Em)(e:Dp)(h:Ry K (v+1) X e)(hv:v=if 5<=n then u+2 else u+1)(hg:okQ X->g'=g) :
  Ry K v(if n=3 then((X.lay 14 g 0).con 1 1(u+1)).lay 6 0 0 else if n=4 then X.lay 6 0 0 else X.lay 26(n-5).toNat 0)(mK n g' e):=by
 unfold mK;by_cases h3:n=3
 ·rw[if_pos h3,if_pos h3];rw[if_neg(by omega)] at hv;subst hv;have ra:Ry K(u+1)(X.lay 14 g 0)((e.puts 14 g' 0).grows(-1)):=bV(u+1)(-1)(bI 14 g g' 0 h hg)(by omega)(by omega);exact bV(u+1)(-1)(bI 6 0 0 0(fo 1 1 ra)(fun _=>rfl))(by omega)(by omega)
 ·rw[if_neg h3,if_neg h3];by_cases h4:n=4
  ·rw[if_pos h4,if_pos h4];exact bV v(-1)(bI 6 0 0 0 h(fun _=>rfl))(by omega)(by omega)
  ·rw[if_neg h4,if_neg h4];exact bV v(-1)(bI 26 _ _ 0 h(fun _=>rfl))(by omega)(by omega)
theorem tK (n:Int)(g u:Nat)(X:Em):Qle X (if n=3 then ((X.lay 14 g 0).con 1 1 (u+1)).lay 6 0 0 else if n=4 then X.lay 6 0 0 else X.lay 26 (n-5).toNat 0):=by
 split
 ·exact((aN _ _ _ _).trans(cL _ _ _ _)).trans(aN _ _ _ _)
 split
 ·exact aN _ _ _ _
 ·exact aN _ _ _ _
theorem CK {K:Nat->Int}(n:Int)(hn:3<=n)(g i g' i' u v:Nat)(X:Em)(e:Dp)(h:Ry K (v+1) X e)(hv:v=if 5<=n then u+2 else u+1)(hg:okQ X->g'=g/\i'=i) :
  Ry K(u+1)(if 5<=n then(((if n=3 then((X.lay 14 g 0).con 1 1(u+1)).lay 6 0 0 else if n=4 then X.lay 6 0 0 else X.lay 26(n-5).toNat 0).lay 13 g 0).land i).lay 27 0 0
   else((if n=3 then((X.lay 14 g 0).con 1 1(u+1)).lay 6 0 0 else if n=4 then X.lay 6 0 0 else X.lay 26(n-5).toNat 0).lay 13 g 0).land i)(mP n g' i' e):=by
 unfold mP
 dsimp only
 have rm:=CQ n hn g g' u v X e h hv(fun o=>(hg o).1);have qm:=tK n g u X;generalize(if n=3 then((X.lay 14 g 0).con 1 1(u+1)).lay 6 0 0 else if n=4 then X.lay 6 0 0 else X.lay 26(n-5).toNat 0)=M at rm qm ⊢;generalize mK n g' e=m at rm ⊢;have rl:=ib i i'(bI 13 g g' 0 rm(fun o=>(hg(qm.ok o)).1))(fun o=>(hg((qm.trans(aN M 13 g 0)).ok o)).2);by_cases h5:5<=n
 ·rw[if_pos h5] at hv;rw[if_pos h5,if_pos h5];subst hv;exact bV(u+1)(-1)(bI 27 0 0 0 rl(fun _=>rfl))(by omega)(by omega)
 ·rw[if_neg h5] at hv;rw[if_neg h5,if_neg h5];subst hv;exact rl
end Go.Proofs.YtbjdkekhnajafaaGreatDoor
