import Derived.Test.YtbjdkekhnajafaaGreatDoorEmL
set_option maxRecDepth 100000
set_option maxHeartbeats 8000000
namespace Go.Proofs.YtbjdkekhnajafaaGreatDoor
open Go.ChangeShapes Go.WideShapes Go.ChangeAt Go.RowKit
set_option linter.unusedVariables false
set_option linter.unusedSimpArgs false
abbrev pt0 (b:Nat):Value:=.pointer (some ⟨b,0,none⟩)
theorem aA:¬I17 0:=by decide
def fq (nc N:Nat):Prop:=∀ (e:Ex) (ao:Option Addr) (cap ar u:Nat) (w:World) (o:Nat->Nat) (rb:Nat) (lv:Value) (ls:List Int) (s:Em),e.kids.size<N->okE nc e->ls.length=nc->nc<=256->SnO w o e.kids ao->s.ks.length=ls.length ->
 s.mes+300*(e.kids.size+1)<=100000000->u+3*(e.kids.size+1)<=1000000000->ar+(e.kids.size+1)<=1000000000->s.dp<=1000000001->EmX w o lv ls->EmW w o rb lv s ->
 Calls Tryz.prog 46 #[pt0 rb,exN e ao cap,spV ar u] w (lA w o rb lv s (emE ls e ar u s) (300*(e.kids.size+1)))
structure Cx (rb gw gn ga:Nat)(k n:Int)(nm:List UInt8)(f:Fs)(ao:Option Addr)(cap ar u:Nat)(w:World)(o:Nat->Nat):Prop where
 bw:Blk w o 0 gw (.cells #[pt0 rb] 87)
 bn:Blk w o 0 gn (.cells #[.int .i64 k,.int .i64 n,stv nm,.slice ao f.len cap] 34)
 ba:Blk w o 0 ga (.cells #[.int .i64 (ar:Nat),.int .i64 (u:Nat)] 91)
 sn:SnO w o f ao
theorem Cx.step {I:Nat->Prop}{rb gw gn ga:Nat}{k n:Int}{nm:List UInt8}{f:Fs}{ao:Option Addr}{cap ar u:Nat}{w w':World}{o o':Nat->Nat}(h:Cx rb gw gn ga k n nm f ao cap ar u w o)(x:aa I w o w' o')(hi:¬I 0):Cx rb gw gn ga k n nm f ao cap ar u w' o' :=
 ⟨h.bw.step x hi,h.bn.step x hi,h.ba.step x hi,h.sn.stepO x hi⟩
theorem Cx.keeps (rb gw gn ga:Nat)(k n:Int)(nm:List UInt8)(f:Fs)(ao:Option Addr)(cap ar u:Nat):lG (Cx rb gw gn ga k n nm f ao cap ar u):=fun h x=>h.step x aA
theorem bD {w:World}{b:Nat}{x:Value}{t:TypeId}(h:w.heap[b]?=some (.cells #[x] t)):w.cell? ⟨b,0,none⟩=some x:=by simp[World.cell?,h]
abbrev Nd4 (w:World)(b j:Nat)(y:Ex)(ak:Option Addr)(ck:Nat):Prop:=w.cell? ⟨b,j,none⟩=some (.int .i64 y.k)/\w.cell? ⟨b,j+1,none⟩=some (.int .i64 y.n)/\w.cell? ⟨b,j+2,none⟩=some (stv y.nm)/\w.cell? ⟨b,j+3,none⟩=some (.slice ak y.kids.len ck)
theorem Nd4.block {w w':World}{b j:Nat}{y:Ex}{ak:Option Addr}{ck:Nat}(h:Nd4 w b j y ak ck)(e:w'.heap[b]?=w.heap[b]?):Nd4 w' b j y ak ck :=
 ⟨(World.cell?_of_block (a:=⟨b,j,none⟩) e).trans h.1,(World.cell?_of_block (a:=⟨b,j+1,none⟩) e).trans h.2.1,(World.cell?_of_block (a:=⟨b,j+2,none⟩) e).trans h.2.2.1,(World.cell?_of_block (a:=⟨b,j+3,none⟩) e).trans h.2.2.2⟩
theorem dQ {w:World}{o:Nat->Nat}{x r:Fs}{y:Ex}{ao:Option Addr}(h:SnO w o (x.app (Fs.ex y r)) ao)(i:Nat)(hi:x.len=i):∃b off ak ck,ao=some ⟨b,off,none⟩/\Nd4 w b (off+i*4) y ak ck/\SnO w o y.kids ak/\∀ {I:Nat->Prop}{w':World}{o':Nat->Nat},aa I w o w' o'->¬I 0->Nd4 w' b (off+i*4) y ak ck:=by
 subst hi;obtain⟨b,off,ak,ck,rfl,hlt,hp,x0,x1,x2,x3,S⟩:=SlN.kidQ h;have N:Nd4 w b (off+x.len*4) y ak ck:=⟨x0,x1,x2,x3⟩
 exact⟨b,off,ak,ck,rfl,N,S,fun x hi=>N.block (x.block b hlt (by rw[hp];exact hi))⟩
theorem wX (nc N:Nat)(HP:fq nc N)(rb gw gn ga:Nat)(k n:Int)(nm:List UInt8)(x y z:Ex)(ao:Option Addr)(cap ar u:Nat)(lv:Value)(ls:List Int)(hok:okF nc (Fs.ex x (Fs.ex y (Fs.ex z .nil))))(hN:y.kids.size<N)(hls:ls.length=nc)(hnc:nc<=256)(hu:u+3*(y.kids.size+1)<=1000000000)(har:ar+(y.kids.size+1)<=1000000000) :
  kK rb lv ls (Cx rb gw gn ga k n nm (Fs.ex x (Fs.ex y (Fs.ex z .nil))) ao cap ar u) 92 #[pt0 gw,pt0 gn,pt0 ga] (emE ls y ar u) (300*(y.kids.size+1)):=by
 intro w o s X E K hm hd hks;obtain⟨bw,bn,ba,sn⟩:=K;have d1:aa (fun _=>False) w o w.drew o:=(aa.refl _ w o).drew;obtain⟨b,off,ak,ck,rfl,NN,Sy,NK⟩:=dQ (x:=one x) sn 1 rfl;have hlen:(Fs.ex x (Fs.ex y (Fs.ex z .nil))).len=3:=rfl;rw[hlen] at bn;have cw:=bD bw.1;obtain⟨⟨n0,n1,n2,n3⟩,-⟩:=as bn.1;obtain⟨a0,a1⟩:=aE ba.1;have HC:=HP y ak ck ar u w.drew o rb lv ls s hN (aK (aK hok).2).1 hls hnc (Sy.stepO d1 id) hks hm hu har hd (X.step d1 id) (E.step d1 noF);rw[ah] at HC;have SD:aa I17 w o w.drew o:=(aa.refl _ w o).drew;have KK:Hid (∀ w' o',aa I17 w.drew o w' o'->w'.cell? ⟨gw,0,none⟩=some (pt0 rb)/\w'.cell? ⟨gn,3,none⟩=some (.slice (some ⟨b,off,none⟩) 3 cap)/\Nd4 w' b (off+4) y ak ck/\w'.cell? ⟨ga,0,none⟩=some (.int .i64 (ar:Nat))/\w'.cell? ⟨ga,1,none⟩=some (.int .i64 (u:Nat))):=fun w' o' S=>by
  have S':=SD.trans S;exact⟨bD (bw.step S' aA).1,(as (bn.step S' aA).1).1.2.2.2,NK S' aA,(aE (ba.step S' aA).1).1,(aE (ba.step S' aA).1).2⟩
 obtain⟨cw',n3',NN',a0',a1'⟩:=KK.out _ _ (aa.refl I17 w.drew o);obtain⟨x0,x1,x2,x3⟩:=NN;obtain⟨y0,y1,y2,y3⟩:=NN';clear bw bn ba sn Sy hlen d1 NK;go_enter Tryz.func92,Tryz.ntmps92;go_wp2_with fail;go_region_held3 (fun wx=>wx.cell? ⟨gw,0,none⟩=some (pt0 rb)/\wx.cell? ⟨gn,3,none⟩=some (.slice (some ⟨b,off,none⟩) 3 cap)/\(wx.cell? ⟨b,off+4,none⟩=some (.int .i64 y.k)/\wx.cell? ⟨b,off+4+1,none⟩=some (.int .i64 y.n)/\wx.cell? ⟨b,off+4+2,none⟩=some (stv y.nm)/\wx.cell? ⟨b,off+4+3,none⟩=some (.slice ak y.kids.len ck))/\wx.cell? ⟨ga,0,none⟩=some (.int .i64 (ar:Nat))/\wx.cell? ⟨ga,1,none⟩=some (.int .i64 (u:Nat))) (go_keep) (first|(go_at_call 46;refine HC.mono ?_;rintro e w2 ⟨rfl,⟨o2,E2,S2⟩,g2⟩;obtain⟨cw',n3',⟨y0,y1,y2,y3⟩,a0',a1'⟩:=KK.out _ _ S2))
 all_goals
  go_end0
  exact⟨rfl,⟨o2,E2,SD.trans S2⟩,g2⟩
theorem xF (nc N:Nat)(HP:fq nc N)(rb gw gn ga:Nat)(k n:Int)(nm:List UInt8)(x y z:Ex)(ao:Option Addr)(cap ar u:Nat)(lv:Value)(ls:List Int)(hok:okF nc (Fs.ex x (Fs.ex y (Fs.ex z .nil))))(hN:z.kids.size<N)(hls:ls.length=nc)(hnc:nc<=256)(hu:u+3*(z.kids.size+1)<=1000000000)(har:ar+(z.kids.size+1)<=1000000000) :
  kK rb lv ls (Cx rb gw gn ga k n nm (Fs.ex x (Fs.ex y (Fs.ex z .nil))) ao cap ar u) 93 #[pt0 gw,pt0 gn,pt0 ga] (emE ls z ar u) (300*(z.kids.size+1)):=by
 intro w o s X E K hm hd hks;obtain⟨bw,bn,ba,sn⟩:=K;have d1:aa (fun _=>False) w o w.drew o:=(aa.refl _ w o).drew;obtain⟨b,off,ak,ck,rfl,NN,Sy,NK⟩:=dQ (x:=Fs.ex x (one y)) sn 2 rfl;have hlen:(Fs.ex x (Fs.ex y (Fs.ex z .nil))).len=3:=rfl;rw[hlen] at bn;have cw:=bD bw.1;obtain⟨⟨n0,n1,n2,n3⟩,-⟩:=as bn.1;obtain⟨a0,a1⟩:=aE ba.1;have HC:=HP z ak ck ar u w.drew o rb lv ls s hN (aK (aK (aK hok).2).2).1 hls hnc (Sy.stepO d1 id) hks hm hu har hd (X.step d1 id) (E.step d1 noF);rw[ah] at HC;have SD:aa I17 w o w.drew o:=(aa.refl _ w o).drew;have KK:Hid (∀ w' o',aa I17 w.drew o w' o'->w'.cell? ⟨gw,0,none⟩=some (pt0 rb)/\w'.cell? ⟨gn,3,none⟩=some (.slice (some ⟨b,off,none⟩) 3 cap)/\Nd4 w' b (off+8) z ak ck/\w'.cell? ⟨ga,0,none⟩=some (.int .i64 (ar:Nat))/\w'.cell? ⟨ga,1,none⟩=some (.int .i64 (u:Nat))):=fun w' o' S=>by
  have S':=SD.trans S;exact⟨bD (bw.step S' aA).1,(as (bn.step S' aA).1).1.2.2.2,NK S' aA,(aE (ba.step S' aA).1).1,(aE (ba.step S' aA).1).2⟩
 obtain⟨cw',n3',NN',a0',a1'⟩:=KK.out _ _ (aa.refl I17 w.drew o);obtain⟨x0,x1,x2,x3⟩:=NN;obtain⟨y0,y1,y2,y3⟩:=NN';clear bw bn ba sn Sy hlen d1 NK;go_enter Tryz.func93,Tryz.ntmps93;go_wp2_with fail;go_region_held3 (fun wx=>wx.cell? ⟨gw,0,none⟩=some (pt0 rb)/\wx.cell? ⟨gn,3,none⟩=some (.slice (some ⟨b,off,none⟩) 3 cap)/\(wx.cell? ⟨b,off+8,none⟩=some (.int .i64 z.k)/\wx.cell? ⟨b,off+8+1,none⟩=some (.int .i64 z.n)/\wx.cell? ⟨b,off+8+2,none⟩=some (stv z.nm)/\wx.cell? ⟨b,off+8+3,none⟩=some (.slice ak z.kids.len ck))/\wx.cell? ⟨ga,0,none⟩=some (.int .i64 (ar:Nat))/\wx.cell? ⟨ga,1,none⟩=some (.int .i64 (u:Nat))) (go_keep) (first|(go_at_call 46;refine HC.mono ?_;rintro e w2 ⟨rfl,⟨o2,E2,S2⟩,g2⟩;obtain⟨cw',n3',⟨y0,y1,y2,y3⟩,a0',a1'⟩:=KK.out _ _ S2))
 all_goals
  go_end0
  exact⟨rfl,⟨o2,E2,SD.trans S2⟩,g2⟩
theorem Ar (nc N:Nat)(HP:fq nc N)(rb gw gn ga:Nat)(k n:Int)(nm:List UInt8)(x y:Ex)(ao:Option Addr)(cap ar u:Nat)(lv:Value)(ls:List Int)(hok:okF nc (Fs.ex x (Fs.ex y .nil)))(hN:y.kids.size<N)(hls:ls.length=nc)(hnc:nc<=256)(hu:u+3*(y.kids.size+1)<=1000000000)(har:ar+(y.kids.size+1)<=1000000000) :
  kK rb lv ls (Cx rb gw gn ga k n nm (Fs.ex x (Fs.ex y .nil)) ao cap ar u) 148 #[pt0 gw,pt0 gn,pt0 ga] (emE ls y ar u) (300*(y.kids.size+1)):=by
 intro w o s X E K hm hd hks;obtain⟨bw,bn,ba,sn⟩:=K;have d1:aa (fun _=>False) w o w.drew o:=(aa.refl _ w o).drew;obtain⟨b,off,ak,ck,rfl,NN,Sy,NK⟩:=dQ (x:=one x) sn 1 rfl;have hlen:(Fs.ex x (Fs.ex y .nil)).len=2:=rfl;rw[hlen] at bn;have cw:=bD bw.1;obtain⟨⟨n0,n1,n2,n3⟩,-⟩:=as bn.1;obtain⟨a0,a1⟩:=aE ba.1;have HC:=HP y ak ck ar u w.drew o rb lv ls s hN (aK (aK hok).2).1 hls hnc (Sy.stepO d1 id) hks hm hu har hd (X.step d1 id) (E.step d1 noF);rw[ah] at HC;have SD:aa I17 w o w.drew o:=(aa.refl _ w o).drew;have KK:Hid (∀ w' o',aa I17 w.drew o w' o'->w'.cell? ⟨gw,0,none⟩=some (pt0 rb)/\w'.cell? ⟨gn,3,none⟩=some (.slice (some ⟨b,off,none⟩) 2 cap)/\Nd4 w' b (off+4) y ak ck/\w'.cell? ⟨ga,0,none⟩=some (.int .i64 (ar:Nat))/\w'.cell? ⟨ga,1,none⟩=some (.int .i64 (u:Nat))):=fun w' o' S=>by
  have S':=SD.trans S;exact⟨bD (bw.step S' aA).1,(as (bn.step S' aA).1).1.2.2.2,NK S' aA,(aE (ba.step S' aA).1).1,(aE (ba.step S' aA).1).2⟩
 obtain⟨cw',n3',NN',a0',a1'⟩:=KK.out _ _ (aa.refl I17 w.drew o);obtain⟨x0,x1,x2,x3⟩:=NN;obtain⟨y0,y1,y2,y3⟩:=NN';clear bw bn ba sn Sy hlen d1 NK;go_enter Tryz.func148,Tryz.ntmps148;go_wp2_with fail;go_region_held3 (fun wx=>wx.cell? ⟨gw,0,none⟩=some (pt0 rb)/\wx.cell? ⟨gn,3,none⟩=some (.slice (some ⟨b,off,none⟩) 2 cap)/\(wx.cell? ⟨b,off+4,none⟩=some (.int .i64 y.k)/\wx.cell? ⟨b,off+4+1,none⟩=some (.int .i64 y.n)/\wx.cell? ⟨b,off+4+2,none⟩=some (stv y.nm)/\wx.cell? ⟨b,off+4+3,none⟩=some (.slice ak y.kids.len ck))/\wx.cell? ⟨ga,0,none⟩=some (.int .i64 (ar:Nat))/\wx.cell? ⟨ga,1,none⟩=some (.int .i64 (u:Nat))) (go_keep) (first|(go_at_call 46;refine HC.mono ?_;rintro e w2 ⟨rfl,⟨o2,E2,S2⟩,g2⟩;obtain⟨cw',n3',⟨y0,y1,y2,y3⟩,a0',a1'⟩:=KK.out _ _ S2))
 all_goals
  go_end0
  exact⟨rfl,⟨o2,E2,SD.trans S2⟩,g2⟩
theorem kK.mono {rb:Nat}{lv:Value}{ls:List Int}{K K':World->(Nat->Nat)->Prop}{F:FuncId}{c:Array Value}{t:Em->Em}{n:Nat}(h:kK rb lv ls K F c t n)(hk:∀ w o,K' w o->K w o):kK rb lv ls K' F c t n:=fun w o s X E k=>h w o s X E (hk w o k)
theorem AV (rb gw gs ga ar u v:Nat)(lv:Value)(ls:List Int)(hv:v<=1)(hu:u<=1000000000) :
  kK rb lv ls (fun w o=>Blk w o 0 gw (.cells #[pt0 rb] 87)/\Blk w o 0 gs (.cells #[.int .i64 (v:Nat)] 3)/\Blk w o 0 ga (.cells #[.int .i64 (ar:Nat),.int .i64 (u:Nat)] 91)) 149 #[pt0 gw,pt0 gs,pt0 ga] (fun t=>t.con (v:Nat) 2 u) 2:=by
 intro w o s X E ⟨bw,bs,ba⟩ hm hd hks;have cw:=bD bw.1;have cs:=bD bs.1;obtain⟨a0,a1⟩:=aE ba.1;have HC:=bY (v:Nat) 2 ar u w o rb lv ls s (by omega) (by omega) hu hd (by omega) X E;clear bw bs ba;go_enter Tryz.func149,Tryz.ntmps149;go_wp2_with (first|(go_at_call 86;refine HC.mono ?_;rintro e w2 ⟨rfl,o2,E2,S2⟩))
 go_end0
 exact⟨rfl,⟨o2,E2,S2⟩,eC s _ _ _ hu⟩
theorem xV:Ent 148:=fun _ _=>by kernel_rfl
theorem xG:Ent 149:=fun _ _=>by kernel_rfl
def CxI (rb gw gn gs ga:Nat)(k n:Int)(nm:List UInt8)(f:Fs)(ao:Option Addr)(cap ar u v:Nat)(w:World)(o:Nat->Nat):Prop:=Cx rb gw gn ga k n nm f ao cap ar u w o/\Blk w o 0 gs (.cells #[.int .i64 (v:Nat)] 3)
theorem CxI.keeps (rb gw gn gs ga:Nat)(k n:Int)(nm:List UInt8)(f:Fs)(ao:Option Addr)(cap ar u v:Nat):lG (CxI rb gw gn gs ga k n nm f ao cap ar u v):=fun h x=>⟨h.1.step x aA,h.2.step x aA⟩
theorem yX (nc N:Nat)(HP:fq nc N)(k n:Int)(nm:List UInt8)(a:Int)(x y:Ex)(ao:Option Addr)(cap op v ar u:Nat)(w:World)(o:Nat->Nat)(rb:Nat)(lv:Value)(ls:List Int)(s:Em)(hop:op<=255)(hv:v<=1)(hok:okF nc (Fs.ex x (Fs.ex y .nil)))(hN1:x.kids.size<N)(hN2:y.kids.size<N)(hls:ls.length=nc)(hnc:nc<=256)(hu:u+3*(x.kids.size+y.kids.size+2)<=1000000000)(har:ar+(x.kids.size+y.kids.size+2)<=1000000000)(S:SnO w o (Fs.ex x (Fs.ex y .nil)) ao)(hks:s.ks.length=ls.length)
  (hm:s.mes+(300*(x.kids.size+1)+(300*(y.kids.size+1)+4))<=100000000) (hd:s.dp<=1000000001) (X:EmX w o lv ls) (h:EmW w o rb lv s) :
  Calls Tryz.prog 90 #[pt0 rb,exN ⟨k,n,nm,a,Fs.ex x (Fs.ex y .nil)⟩ ao cap,.int .i64 (op:Nat),.int .i64 (v:Nat),spV ar u] w (lA w o rb lv s ((emE ls x ar u s).fork op (emE ls y ar u) (fun t=>t.con (v:Nat) 2 u)) (300*(x.kids.size+1)+(300*(y.kids.size+1)+4))):=by
 have hmf:∀ (fn:Fn) (first cap:Array Value) (w:World),(Instr.makeFunc fn first cap).run Tryz.prog w=.ok (.func fn first cap) w:=fun _ _ _ _=>rfl;have hlen:(Fs.ex x (Fs.ex y .nil)).len=2:=rfl;rw[ah];simp only;obtain⟨g,hg⟩:∃g,g=w.heap.size:=⟨_,rfl⟩
 obtain⟨w1,hw1⟩:∃w1,w1=(((w.alloc (.cells #[pt0 rb] 87)).alloc (.cells #[.int .i64 k,.int .i64 n,stv nm,.slice ao (Fs.ex x (Fs.ex y .nil)).len cap] 34)).alloc (.cells #[.int .i64 (v:Nat)] 3)).alloc (.cells #[.int .i64 (ar:Nat),.int .i64 (u:Nat)] 91):=⟨_,rfl⟩
 obtain⟨z1,z2,z3,z4,z5,z6⟩:=al4 w (.cells #[pt0 rb] 87) (.cells #[.int .i64 k,.int .i64 n,stv nm,.slice ao (Fs.ex x (Fs.ex y .nil)).len cap] 34) (.cells #[.int .i64 (v:Nat)] 3) (.cells #[.int .i64 (ar:Nat),.int .i64 (u:Nat)] 91);rw[<-hw1,<-hg] at z1 z2 z3 z4 z5 z6;have s0:∀ {I:Nat->Prop},aa I w o w1 (ae w o 0):=fun {I}=>dJ o (by rw[<-hg];exact z6);have hnl:∀ j,ae w o 0 (g+j)=0:=fun j=>ax (by omega);have K1:CxI rb g (g+1) (g+2) (g+3) k n nm (Fs.ex x (Fs.ex y .nil)) ao cap ar u v w1 (ae w o 0):=⟨⟨⟨z1,hnl 0⟩,⟨z2,hnl 1⟩,⟨z4,hnl 3⟩,S.stepO (s0 (I:=fun _=>False)) id⟩,⟨z3,hnl 2⟩⟩
 have E1:=h.step (s0 (I:=fun _=>False)) noF;have X1:=X.step (s0 (I:=fun _=>False)) id;have S0:=s0 (I:=I17);generalize ae w o 0=o1 at *;have HG:=Lib.hid hg;clear s0 hnl z1 z2 z3 z4 z5 z6 h X S hg;have d1:aa (fun _=>False) w1 o1 w1.drew o1:=(aa.refl _ w1 o1).drew;have SD:aa I17 w1 o1 w1.drew o1:=(aa.refl _ w1 o1).drew;have KD:=K1.1.step d1 id;obtain⟨b,off,ak,ck,rfl,NN,Sy,NK⟩:=dQ (x:=.nil) K1.1.sn 0 rfl;have HC:=HP x ak ck ar u w1.drew o1 rb lv ls s hN1 (aK hok).1 hls hnc (Sy.stepO d1 id) hks (by omega) (by omega) (by omega) hd (X1.step d1 id) (E1.step d1 noF);rw[ah] at HC;rw[hlen] at hw1 ⊢;have KK:Hid (∀ w' o',aa I17 w1.drew o1 w' o'->w'.cell? ⟨g,0,none⟩=some (pt0 rb)/\w'.cell? ⟨g+1,3,none⟩=some (.slice (some ⟨b,off,none⟩) 2 cap)/\Nd4 w' b off x ak ck/\w'.cell? ⟨g+3,0,none⟩=some (.int .i64 (ar:Nat))/\w'.cell? ⟨g+3,1,none⟩=some (.int .i64 (u:Nat))):=fun w' o' S=>by
  have S':=SD.trans S;have K2:=K1.1.step S' aA;exact⟨bD K2.bw.1,(as K2.bn.1).1.2.2.2,NK S' aA,(aE K2.ba.1).1,(aE K2.ba.1).2⟩
 obtain⟨cw',n3',NN',a0',a1'⟩:=KK.out _ _ (aa.refl I17 w1.drew o1);have cw:=bD K1.1.bw.1;have n3:=(as K1.1.bn.1).1.2.2.2;rw[hlen] at n3;obtain⟨a0,a1⟩:=aE K1.1.ba.1;obtain⟨x0,x1,x2,x3⟩:=NN;obtain⟨y0,y1,y2,y3⟩:=NN';have FK:∀ w2 o2 s2,CxI rb g (g+1) (g+2) (g+3) k n nm (Fs.ex x (Fs.ex y .nil)) (some ⟨b,off,none⟩) cap ar u v w2 o2->EmX w2 o2 lv ls->EmW w2 o2 rb lv s2->s2.mes+(300*(y.kids.size+1)+2+2)<=100000000->s2.dp<=1000000001->s2.ks.length=ls.length->_:=fun w2 o2 s2 K2 X2 E2 hm2 hd2 hk2 =>
  qY op 148 149 #[pt0 g,pt0 (g+1),pt0 (g+3)] #[pt0 g,pt0 (g+2),pt0 (g+3)] (emE ls y ar u) (fun t=>t.con (v:Nat) 2 u) (300*(y.kids.size+1)) 2 _ (CxI.keeps _ _ _ _ _ _ _ _ _ _ _ _ _ _) xV xG w2 o2 rb lv ls ((Ar nc N HP rb g (g+1) (g+3) k n nm x y (some ⟨b,off,none⟩) cap ar u lv ls hok hN2 hls hnc (by omega) (by omega)).mono (fun _ _ h=>h.1)) ((AV rb g (g+2) (g+3) ar u v lv ls hv (by omega)).mono (fun _ _ h=>⟨h.1.bw,h.2,h.1.ba⟩)) s2 hop hm2 hd2 hk2 X2 E2 K2
 clear hlen d1 NK Sy KD E1 hok hN1 hN2;go_enter Tryz.func90,Tryz.ntmps90;go_upto_region 1 with fail;rw[<-hw1,<-HG.out];clear hw1;go_region_held3 (fun wx=>wx.cell? ⟨g,0,none⟩=some (pt0 rb)/\wx.cell? ⟨g+1,3,none⟩=some (.slice (some ⟨b,off,none⟩) 2 cap)/\(wx.cell? ⟨b,off,none⟩=some (.int .i64 x.k)/\wx.cell? ⟨b,off+1,none⟩=some (.int .i64 x.n)/\wx.cell? ⟨b,off+2,none⟩=some (stv x.nm)/\wx.cell? ⟨b,off+3,none⟩=some (.slice ak x.kids.len ck))/\wx.cell? ⟨g+3,0,none⟩=some (.int .i64 (ar:Nat))/\wx.cell? ⟨g+3,1,none⟩=some (.int .i64 (u:Nat))) (go_keep) (first|(go_at_call 46;refine HC.mono ?_;rintro e w2 ⟨rfl,⟨o2,E2,S2⟩,g2⟩;obtain⟨cw',n3',⟨y0,y1,y2,y3⟩,a0',a1'⟩:=KK.out _ _ S2))
 all_goals
  have S3:=SD.trans S2;have HF:=FK w2 o2 _ ⟨K1.1.step S3 aA,K1.2.step S3 aA⟩ (X1.step S3 aA) E2 (by have:=g2.mes;omega) (g2.dp hd) (g2.ks.trans hks);clear FK HC KK K1;go_wp2_with (first|(go_at_call 91;refine HF.mono ?_;rintro e w4 ⟨rfl,⟨o4,E4,S4⟩,g4⟩))
  go_end0
  exact⟨rfl,⟨o4,E4,(S0.trans S3).trans S4⟩,(g2.trans g4).le (by omega)⟩
theorem Ct (nc N:Nat)(HP:fq nc N)(n:Int)(nm:List UInt8)(a:Int)(x:Ex)(ao:Option Addr)(cap ar u:Nat)(w:World)(o:Nat->Nat)(rb:Nat)(lv:Value)(ls:List Int)(s:Em)(hoe:okE nc ⟨26,n,nm,a,Fs.ex x .nil⟩)(hN1:x.kids.size<N)(hls:ls.length=nc)(hnc:nc<=256)(hu:u+3*(x.kids.size+1)<=1000000000)(har:ar+(x.kids.size+1)<=1000000000)(S:SnO w o (Fs.ex x .nil) ao)(hks:s.ks.length=ls.length)
  (hm:s.mes+(300*(x.kids.size+1)+2)<=100000000) (hd:s.dp<=1000000001) (X:EmX w o lv ls) (h:EmW w o rb lv s) :
  Calls Tryz.prog 94 #[pt0 rb,exN ⟨26,n,nm,a,Fs.ex x .nil⟩ ao cap,spV ar u] w (lA w o rb lv s (((emE ls x ar u ((s.cel n.toNat (kdE x)).lay 17 n.toNat 0)).lay 18 n.toNat 0).land s.ws.length) (300*(x.kids.size+1)+2)):=by
 have hok:okF nc (Fs.ex x .nil):=hoe.2;have hn:0<=n/\n<(nc:Int):=hoe.1.2.2.1 rfl;obtain⟨n0,hn0⟩:∃n0:Nat,(n0:Int)=n:=⟨n.toNat,by omega⟩
 subst hn0;rw[Int.toNat_natCast];have hkx:=iG (aK hok).1;have hlen:(Fs.ex x .nil).len=1:=rfl;have HKO:=fun w2 (S2:SnA w2 (Fs.ex x .nil) ao)=>gL nc ((Fs.ex x .nil).size+1) ⟨26,(n0:Int),nm,a,Fs.ex x .nil⟩ ao cap w2 (by show (Fs.ex x .nil).size < _;omega) hoe S2;have hke:kdE ⟨26,(n0:Int),nm,a,Fs.ex x .nil⟩=kdE x:=by simp only[kdE,iD];simp[kdN]
 rw[ah,hke] at HKO;rw[ah];simp only at HKO ⊢;obtain⟨g,hg⟩:∃g,g=w.heap.size:=⟨_,rfl⟩
 obtain⟨w1,hw1⟩:∃w1,w1=(w.alloc (.cells #[.int .i64 26,.int .i64 (n0:Nat),stv nm,.slice ao (Fs.ex x .nil).len cap] 34)).alloc (.cells #[.int .i64 (ar:Nat),.int .i64 (u:Nat)] 91):=⟨_,rfl⟩
 obtain⟨z1,z2,z5,z6⟩:=al2 w (.cells #[.int .i64 26,.int .i64 (n0:Nat),stv nm,.slice ao (Fs.ex x .nil).len cap] 34) (.cells #[.int .i64 (ar:Nat),.int .i64 (u:Nat)] 91);rw[<-hw1,<-hg] at z1 z2 z5 z6;have s0:∀ {I:Nat->Prop},aa I w o w1 (ae w o 0):=fun {I}=>dJ o (by rw[<-hg];exact z6);have hnl:∀ j,ae w o 0 (g+j)=0:=fun j=>ax (by omega);have K1:Blk w1 (ae w o 0) 0 g (.cells #[.int .i64 26,.int .i64 (n0:Nat),stv nm,.slice ao (Fs.ex x .nil).len cap] 34)/\Blk w1 (ae w o 0) 0 (g+1) (.cells #[.int .i64 (ar:Nat),.int .i64 (u:Nat)] 91):=⟨⟨z1,hnl 0⟩,⟨z2,hnl 1⟩⟩
 have SN1:=S.stepO (s0 (I:=fun _=>False)) id;have E1:=h.step (s0 (I:=fun _=>False)) noF;have X1:=X.step (s0 (I:=fun _=>False)) id;have S0:=s0 (I:=I17);generalize ae w o 0=o1 at *;have HG:=Lib.hid hg;clear s0 hnl z1 z2 z5 z6 h X S hg;rw[hlen] at hw1 K1 HKO ⊢;have d1:aa (fun _=>False) w1 o1 w1.drew o1:=(aa.refl _ w1 o1).drew;have HK:=HKO w1.drew (SN1.all.below (Below.refl _ w1).drew);obtain⟨b,off,ak,ck,rfl,NN,Sy,NK⟩:=dQ (x:=.nil) SN1 0 rfl;obtain⟨h1,h2,h3,vw,vc,vn,vk,mc,mn,q0,q1,q2,q3,q4,q5,q6⟩:=E1;obtain⟨gk,capk,rfl,ogk,-,-,hgl,hck,hfk⟩:=q4.pos (by rw[hks,hls];omega);have hne1:rb≠gk:=fun e=>by have:=q0.2;rw[e,ogk] at this;cases this
 have hne2:g≠gk:=fun e=>by have:=K1.1.2;rw[e,ogk] at this;cases this
 have hn0:n0<s.ks.length:=by rw[hks,hls];omega
 have HS:Hid (∀ w2,Below w1.heap.size w1 w2->EmW (w2.setCell ⟨gk,n0,none⟩ (.int .i64 (kdE x))) o1 rb lv (s.cel n0 (kdE x))/\aa I17 w1 o1 (w2.setCell ⟨gk,n0,none⟩ (.int .i64 (kdE x))) o1):=fun w2 B=>by
  have x0:=aa.ofBelow (I:=fun _=>False) o1 B;have x1:aa (fun k=>k=5) w1 o1 (w2.setCell ⟨gk,n0,none⟩ (.int .i64 (kdE x))) o1:=(aa.ofBelow o1 B).setCell ⟨gk,n0,none⟩ _ ogk;refine⟨⟨h1,h2,h3,_,_,_,_,mc,mn,q0.step x1 (by decide),q1.step x1 (by decide),q2.step x1 (by decide),q3.step x1 (by decide),?_,q5.step x1 (by decide),q6.step x1 (by decide)⟩,x1.mono (cC (by decide))⟩;have r:=(q4.step x0 id).store n0 (.int .i64 (kdE x));have e2:eiV (s.cel n0 (kdE x)).ks=(eiV s.ks).set n0 (.int .i64 (kdE x)):=by simp[eiV,Em.cel]
  have e3:(s.cel n0 (kdE x)).ks.length=s.ks.length:=by simp[Em.cel]
  rw[e2,e3];exact r
 have KK:Hid (∀ w' o',aa I17 w1 o1 w' o'->w'.cell? ⟨g,0,none⟩=some (.int .i64 26)/\w'.cell? ⟨g,1,none⟩=some (.int .i64 (n0:Nat))/\w'.cell? ⟨g,2,none⟩=some (stv nm)/\w'.cell? ⟨g,3,none⟩=some (.slice (some ⟨b,off,none⟩) 1 cap)/\Nd4 w' b off x ak ck/\w'.cell? ⟨g+1,0,none⟩=some (.int .i64 (ar:Nat))/\w'.cell? ⟨g+1,1,none⟩=some (.int .i64 (u:Nat))):=fun w' o' S=>by
  obtain⟨⟨e0,e1,e2,e3⟩,-⟩:=as (K1.1.step S aA).1;obtain⟨f0,f1⟩:=aE (K1.2.step S aA).1;exact⟨e0,e1,e2,e3,NK S aA,f0,f1⟩
 have FZ:Hid (∀ w2,Below w1.heap.size w1 w2->w2.cell? ⟨rb,3,none⟩=some (.slice (some ⟨gk,0,none⟩) s.ks.length capk)/\(∃v,w2.cell? ⟨gk,n0,none⟩=some v)/\w2.frozen? ⟨gk,n0,none⟩=false):=fun w2 B=>by
  refine⟨(B.cell (p:=⟨rb,3,none⟩) q0.lt).trans (dZ q0.1).1.2.2.2.1,⟨.int .i64 (s.ks[n0]),?_⟩,?_⟩
  ·rw[B.cell (p:=⟨gk,n0,none⟩) hgl,hck n0 (by omega)];simp[eiV,hn0]
  ·have e:=B.block gk hgl
   have:=hfk n0
   unfold World.frozen? at this ⊢;rw[e];exact this
 obtain⟨r3,⟨vz,rz⟩,rf⟩:=FZ.out w1 (Below.refl _ _);obtain⟨r3',⟨vz',rz'⟩,rf'⟩:=FZ.out w1.drew (Below.refl _ w1).drew;obtain⟨c0,c1,c2,c3,⟨x0,x1,x2,x3⟩,a0,a1⟩:=KK.out _ _ (aa.refl I17 w1 o1);obtain⟨d0,d1',d2,d3,⟨y0,y1,y2,y3⟩,b0,b1⟩:=KK.out _ _ ((aa.refl I17 w1 o1).drew);have hnI:(n0:Int)<(s.ks.length:Int):=by omega
 have SyD:=Sy;have gc:=Cv s n0 (kdE x);have gl:=bF (s.cel n0 (kdE x)) 17 n0 0;clear q0 q1 q2 q3 q4 q5 q6 h1 h2 h3 hck hfk NK SN1 HKO hke hlen NN;generalize hkk:kdE x=kx at *
 go_enter_defers Tryz.func94,Tryz.ntmps94
 go_upto_region 1 with fail;rw[<-hw1,<-HG.out];clear hw1;go_region_held3 (fun wx=>wx.cell? ⟨g,0,none⟩=some (.int .i64 26)/\wx.cell? ⟨g,1,none⟩=some (.int .i64 (n0:Nat))/\wx.cell? ⟨g,2,none⟩=some (stv nm)/\wx.cell? ⟨g,3,none⟩=some (.slice (some ⟨b,off,none⟩) 1 cap)/\wx.cell? ⟨rb,3,none⟩=some (.slice (some ⟨gk,0,none⟩) s.ks.length capk)) (go_keep) (first|(go_at_call 87;refine HK.mono ?_;rintro e w2 ⟨rfl,B2⟩;have BB2:=((Below.refl _ w1).drew).trans B2;obtain⟨e0,e1,e2,e3,-,-,-⟩:=KK.out _ _ (aa.ofBelow o1 BB2);obtain⟨t3,⟨tz,tr⟩,tf⟩:=FZ.out w2 BB2;obtain⟨m0,m1,m2,m3,-,-,-⟩:=KK.out _ _ (HS.out w2 BB2).2;have mr:=(World.cell?_of_block (a:=⟨rb,3,none⟩) (heap_setCell_other w2 ⟨gk,n0,none⟩ rb (.int .i64 kx) hne1)).trans t3))
 all_goals
  obtain⟨ES,SS⟩:=HS.out w2 BB2;clear HS FZ HK m0 m1 m2 m3 mr t3 tz tr tf e0 e1 e2 e3 r3 r3' rz rz' rf rf' c0 c1 c2 c3 d0 d1' d2 d3 x0 x1 x2 x3 y0 y1 y2 y3 a0 a1 b0 b1;generalize w2.setCell ⟨gk,n0,none⟩ (.int .i64 kx)=w3 at *;have XS:=X1.step SS aA;have HL:=bU 17 n0 0 w3 o1 rb lv ls (s.cel n0 kx) (by omega) (by omega) (by omega) (by have:=gc.mes;omega) XS ES;obtain⟨c0,c1,c2,c3,⟨x0,x1,x2,x3⟩,a0,a1⟩:=KK.out _ _ SS;go_upto_region 3 with (first|(go_at_call 47;refine HL.mono ?_;rintro e w4 ⟨rfl,o4,E4,S4⟩))
  have ST:=SS.trans S4;have d4:aa (fun _=>False) w4 o4 w4.drew o4:=(aa.refl _ w4 o4).drew;have D4:aa I17 w4 o4 w4.drew o4:=(aa.refl _ w4 o4).drew;have STD:=ST.trans D4;have HC:=HP x ak ck ar u w4.drew o4 rb lv ls ((s.cel n0 kx).lay 17 n0 0) hN1 (aK hok).1 hls hnc (Sy.stepO STD aA) ((gc.trans gl).ks.trans hks) (by have:=(gc.trans gl).mes;omega) (by omega) (by omega) ((gc.trans gl).dp hd) (X1.step STD aA) (E4.step d4 noF);rw[ah] at HC;clear c0 c1 c2 c3 x0 x1 x2 x3 a0 a1 HL;obtain⟨c0,c1,c2,c3,⟨x0,x1,x2,x3⟩,a0,a1⟩:=KK.out _ _ ST;obtain⟨e0,e1,e2,e3,⟨y0,y1,y2,y3⟩,b0,b1⟩:=KK.out _ _ STD;go_region_held3 (fun wx=>wx.cell? ⟨g,3,none⟩=some (.slice (some ⟨b,off,none⟩) 1 cap)/\(wx.cell? ⟨b,off,none⟩=some (.int .i64 x.k)/\wx.cell? ⟨b,off+1,none⟩=some (.int .i64 x.n)/\wx.cell? ⟨b,off+2,none⟩=some (stv x.nm)/\wx.cell? ⟨b,off+3,none⟩=some (.slice ak x.kids.len ck))/\wx.cell? ⟨g+1,0,none⟩=some (.int .i64 (ar:Nat))/\wx.cell? ⟨g+1,1,none⟩=some (.int .i64 (u:Nat))) (go_keep) (first|(go_at_call 46;refine HC.mono ?_;rintro e w5 ⟨rfl,⟨o5,E5,S5⟩,g5⟩;obtain⟨m0,m1,m2,m3,⟨z0,z1,z2,z3⟩,h0,h1⟩:=KK.out _ _ (STD.trans S5)))
  all_goals
   have SU:=STD.trans S5;have g15:=(gc.trans gl).trans g5;have HL:=bU 18 n0 0 w5 o5 rb lv ls (emE ls x ar u ((s.cel n0 kx).lay 17 n0 0)) (by omega) (by omega) (by omega) (by have:=g15.mes;omega) (X1.step SU aA) E5;clear HC c0 c1 c2 c3 x0 x1 x2 x3 a0 a1 e0 e1 e2 e3 y0 y1 y2 y3 b0 b1;obtain⟨s5,hs5⟩:∃s5,s5=emE ls x ar u ((s.cel n0 kx).lay 17 n0 0):=⟨_,rfl⟩
   rw[<-hs5] at E5 g5 g15 HL;have HS5:=Lib.hid hs5;clear hs5;go_wp2_with (first|(go_at_call 47;refine HL.mono ?_;rintro e w6 ⟨rfl,o6,E6,S6⟩));have hwl:s.ws.length<(s5.lay 18 n0 0).ws.length:=by
    have h1:=g5.ws;have h2:((s.cel n0 kx).lay 17 n0 0).ws.length=s.ws.length+1:=by simp[Em.lay,Em.cel]
    have h3:(s5.lay 18 n0 0).ws.length=s5.ws.length+1:=by simp[Em.lay]
    omega
   have g6:=g15.trans (bF s5 18 n0 0);have HD:=nV s.ws.length .returning w6 o6 rb lv ls (s5.lay 18 n0 0) hwl (by have:=g6.mes;omega) (X1.step (SU.trans S6) aA) E6;refine leaves_cons (f:=150) (args:=#[.pointer (some ⟨rb,0,none⟩),.int .i64 (s.ws.length:Nat)]) (by simp) (by simp[go_sem,Em.cel]) ?_;refine HD.mono ?_;rintro e u' w7 ⟨rfl,rfl,o7,E7,S7⟩;exact⟨_,results_none rfl _ _ _,rfl,by rw[<-HS5.out];exact⟨⟨o7,E7,((S0.trans SU).trans S6).trans S7⟩,(g6.trans (kZ _ _)).le (by omega)⟩⟩
abbrev ed (e:Ex)(ao:Option Addr)(cap:Nat):Array Value:=#[.int .i64 e.k,.int .i64 e.n,stv e.nm,.slice ao e.kids.len cap]
theorem uR (h:Nat):∀ (l:List Int) (k:Nat) (s:Em) (x:Int) (r:List Int),l=x::r->eB h l k s=eB h r (k+1) (if x=(h:Int) then s.lay 19 k 0 else s)
 | _,k,s,x,r,rfl=>rfl
theorem xE (nc N:Nat)(HP:fq nc N)(e:Ex)(ao:Option Addr)(cap ar u:Nat)(w:World)(o:Nat->Nat)(rb:Nat)(lv:Value)(ls:List Int)(s:Em)(hoe:okE nc e)(hN:e.kids.size<N)(hls:ls.length=nc)(hnc:nc<=256)(hu:u+3*(e.kids.size+1)<=1000000000)(har:ar+1+(e.kids.size+1)<=1000000000)(S:SnO w o e.kids ao)(hks:s.ks.length=ls.length)
  (hm:s.mes+(256+300*(e.kids.size+1))<=100000000) (hd:s.dp<=1000000001) (X:EmX w o lv ls) (h:EmW w o rb lv s) :
  Calls Tryz.prog 225 #[pt0 rb,exN e ao cap,spV ar u] w (lA w o rb lv s (bdy ls (emE ls e) ar u s) (256+300*(e.kids.size+1))):=by
 subst hls;have HKS:=Lib.hid hks;clear hks;obtain⟨g,hg⟩:∃g,g=w.heap.size:=⟨_,rfl⟩
 obtain⟨w1,hw1⟩:∃w1,w1=(w.alloc (.cells (ed e ao cap) 34)).alloc (.cells #[.int .i64 (ar:Nat),.int .i64 (u:Nat)] 91):=⟨_,rfl⟩
 obtain⟨z1,z2,z5,z6⟩:=al2 w (.cells (ed e ao cap) 34) (.cells #[.int .i64 (ar:Nat),.int .i64 (u:Nat)] 91);rw[<-hw1,<-hg] at z1 z2 z5 z6;obtain⟨A,hA⟩:∃A,A=ar+1:=⟨_,rfl⟩
 have hAI:(ar:Int)+1=(A:Int):=by omega
 obtain⟨w2,hw2⟩:∃w2,w2=w1.setCell ⟨g+1,0,none⟩ (.int .i64 (A:Nat)):=⟨_,rfl⟩
 have B2:Below g w w2:=by rw[hw2];exact z6.setCell (p:=⟨g+1,0,none⟩) (by show g<=g+1;omega) _
 have y1:w2.heap[g]?=some (.cells (ed e ao cap) 34):=by rw[hw2];exact(heap_setCell_other w1 ⟨g+1,0,none⟩ g _ (by show g≠g+1;omega)).trans z1
 have y2:w2.heap[g+1]?=some (.cells #[.int .i64 (A:Nat),.int .i64 (u:Nat)] 91):=by
  rw[hw2]
  have:=heap_setCell_same w1 (g+1) 0 _ _ (.int .i64 (A:Nat)) z2
  simpa using this
 have s0:∀ {I:Nat->Prop},aa I w o w2 (ae w o 0):=fun {I}=>dJ o (by rw[<-hg];exact B2);have hnl:∀ j,ae w o 0 (g+j)=0:=fun j=>ax (by omega);have K1:Blk w2 (ae w o 0) 0 g (.cells (ed e ao cap) 34)/\Blk w2 (ae w o 0) 0 (g+1) (.cells #[.int .i64 (A:Nat),.int .i64 (u:Nat)] 91):=⟨⟨y1,hnl 0⟩,⟨y2,hnl 1⟩⟩
 have SN1:=S.stepO (s0 (I:=fun _=>False)) id;have E1:=h.step (s0 (I:=fun _=>False)) noF;have X1:=X.step (s0 (I:=fun _=>False)) id;have S0:=s0 (I:=I17);generalize ae w o 0=o1 at *;have HG:=Lib.hid hg;obtain⟨⟨c0,c1⟩,cf⟩:=io z2;have cf0:=cf 0;clear s0 hnl z1 z2 z5 z6 h X S hg y1 y2 B2 cf;rw[ah];have KK:Hid (∀ w' o',aa I17 w2 o1 w' o'->w'.cell? ⟨g,0,none⟩=some (.int .i64 e.k)/\w'.cell? ⟨g,1,none⟩=some (.int .i64 e.n)/\w'.cell? ⟨g,2,none⟩=some (stv e.nm)/\w'.cell? ⟨g,3,none⟩=some (.slice ao e.kids.len cap)/\w'.cell? ⟨g+1,0,none⟩=some (.int .i64 (A:Nat))/\w'.cell? ⟨g+1,1,none⟩=some (.int .i64 (u:Nat))):=fun w' o' S=>by
  obtain⟨⟨e0,e1,e2,e3⟩,-⟩:=as (K1.1.step S aA).1;obtain⟨f0,f1⟩:=aE (K1.2.step S aA).1;exact⟨e0,e1,e2,e3,f0,f1⟩
 obtain⟨al,cl,rfl,hlv⟩:=X1.lvs;have LV:Hid (∀ w' o',aa I17 w2 o1 w' o'->∀ j x,ls[j]?=some x->∃b off,al=some ⟨b,off,none⟩/\w'.cell? ⟨b,off+j,none⟩=some (.int .i64 x)):=fun w' o' S j x hx=>by
  rcases hlv with h|⟨b,off,h1,h2,h3,h4⟩
  ·rw[h] at hx;simp at hx
  ·exact⟨b,off,h1,(World.cell?_of_block (a:=⟨b,off+j,none⟩) (S.block b h3 (by rw[h2];exact aA))).trans (h4 j x hx)⟩
 have RB:Hid (∀ w' o' s',EmW w' o' rb (.slice al ls.length cl) s'->w'.cell? ⟨rb,6,none⟩=some (.slice al ls.length cl)):=fun w' o' s' E=>by
  obtain⟨-,-,-,vw,vc,vn,vk,mc,mn,q0,-⟩:=E;exact(dZ q0.1).1.2.2.2.2.2.2.1
 obtain⟨W,hW⟩:∃W,W=eB A ls 0 s:=⟨_,rfl⟩
 have HW:Hid (W=eB A (ls.drop 0) 0 s):=by show _=_;rw[hW];rfl
 have HB:Hid (bdy ls (emE ls e) ar u s=emE ls e A u W):=by show _=_;rw[hW,hA];rfl
 have r6:=RB.out _ _ _ E1;obtain⟨k0,k1,k2,k3,a0,a1⟩:=KK.out _ _ (aa.refl I17 w2 o1);have hls2:ls.length<=256:=by omega
 have HA:=Lib.hid hA;clear hW hlv hA;go_enter Tryz.func225,Tryz.ntmps225;go_upto_region 1 with fail;rw[<-hw1,<-HG.out];clear hw1;go_upto_region 2 with fail;rw[<-hw2];clear hw2;clear hAI;go_wp2_with fail;go_loopw [17] (fun vi wr=>∃(k:Nat) (s':Em) (o':Nat->Nat),vi=.int .i64 (k:Nat)/\k<=ls.length/\EmW wr o' rb (.slice al ls.length cl) s'/\aa I17 w2 o1 wr o'/\Grw s s' k/\Hid (W=eB A (ls.drop k) k s')) (fun vi _=>ls.length-(intOf vi).toNat)
 case atStart=>exact⟨0,s,o1,by go_num,by omega,E1,aa.refl _ _ _,⟨by omega,Nat.le_refl _,rfl,id⟩,HW⟩
 case round =>
  clear HW E1 r6 k0 k1 k2 k3 a0 a1 c0 c1 cf0;obtain⟨k,s',o',rfl,hk,E2,S2,g2,HW⟩:=hrel;obtain⟨k0,k1,k2,k3,a0,a1⟩:=KK.out _ _ S2;by_cases hlt:k<ls.length
  ·have hkI:(k:Int)<(ls.length:Int):=by omega
   have hx:ls[k]?=some ls[k]:=List.getElem?_eq_getElem hlt;have hdr:ls.drop k=ls[k]::ls.drop (k+1):=List.drop_eq_getElem_cons hlt;have HW2:=HW.out;rw[uR A _ k s' _ _ hdr] at HW2;obtain⟨b,off,rfl,cx⟩:=LV.out _ _ S2 k _ hx;generalize ls[k]=lx at *;by_cases he:lx=(A:Int)
   ·rw[if_pos he] at HW2;have HW3:=Lib.hid HW2;have HL:=bU 19 k 0 wr o' rb _ ls s' (by omega) (by omega) (by omega) (by have:=g2.mes;omega) (X1.step S2 aA) E2;have g3:=g2.trans (bF s' 19 k 0);subst he;clear HW2 HW hx hdr;go_wp2_with (first|(go_at_call 47;refine HL.mono ?_;rintro e w3 ⟨rfl,o3,E3,S3⟩));go_roundw
    case rel=>(try ((repeat apply Exists.intro);refine⟨?_,rfl⟩));exact⟨k+1,s'.lay 19 k 0,o3,by go_num,by omega,E3,S2.trans S3,g3,HW3.out⟩
    case measure=>simp[intOf];omega
   ·rw[if_neg he] at HW2;have HW3:=Lib.hid HW2;have g3:=g2.le (m:=k+1) (by omega);clear HW2 HW hx hdr;go_wp2;go_roundw
    case rel=>(try ((repeat apply Exists.intro);refine⟨?_,rfl⟩));exact⟨k+1,s',o',by go_num,by omega,E2,S2,g3,HW3.out⟩
    case measure=>simp[intOf];omega
  ·have hkI:¬(k:Int)<(ls.length:Int):=by omega
   obtain rfl:k=ls.length:=by omega
   have HW2:=HW.out;rw[List.drop_length] at HW2;have HW3:W=s':=HW2;subst HW3;have hA:=HA.out;have HC:=HP e ao cap A u wr o' rb _ ls W hN hoe rfl hnc (SN1.stepO S2 aA) (g2.ks.trans HKS.out) (by have:=g2.mes;omega) hu (by omega) (g2.dp hd) (X1.step S2 aA) E2;rw[ah] at HC;have HBO:=HB;clear HW HW2 hA HP hlt;go_wp2_with (first|(go_at_call 46;refine HC.mono ?_;rintro e w3 ⟨rfl,⟨o3,E3,S3⟩,g3⟩))
   go_end0
   exact⟨rfl,by rw[HBO.out];exact⟨⟨o3,E3,(S0.trans S2).trans S3⟩,(g2.trans g3).le (by omega)⟩⟩
structure CxS (rb gw gn gl gs ga gg:Nat)(e:Ex)(ao:Option Addr)(cap ar u op v ag:Nat)(w:World)(o:Nat->Nat):Prop where
 bw:Blk w o 0 gw (.cells #[pt0 rb] 87)
 bn:Blk w o 0 gn (.cells (ed e ao cap) 34)
 bl:Blk w o 0 gl (.cells #[.int .i64 (op:Nat)] 3)
 bs:Blk w o 0 gs (.cells #[.int .i64 (v:Nat)] 3)
 ba:Blk w o 0 ga (.cells #[.int .i64 (ar:Nat),.int .i64 (u:Nat)] 91)
 bg:Blk w o 0 gg (.cells #[.int .i64 (ag:Nat)] 3)
 sn:SnO w o e.kids ao
theorem CxS.step {I:Nat->Prop}{rb gw gn gl gs ga gg:Nat}{e:Ex}{ao:Option Addr}{cap ar u op v ag:Nat}{w w':World}{o o':Nat->Nat}(h:CxS rb gw gn gl gs ga gg e ao cap ar u op v ag w o)(x:aa I w o w' o')(hi:¬I 0):CxS rb gw gn gl gs ga gg e ao cap ar u op v ag w' o' :=
 ⟨h.bw.step x hi,h.bn.step x hi,h.bl.step x hi,h.bs.step x hi,h.ba.step x hi,h.bg.step x hi,h.sn.stepO x hi⟩
theorem CxS.keeps (rb gw gn gl gs ga gg:Nat)(e:Ex)(ao:Option Addr)(cap ar u op v ag:Nat):lG (CxS rb gw gn gl gs ga gg e ao cap ar u op v ag):=fun h x=>h.step x aA
theorem Ei (nc N:Nat)(HP:fq nc N)(rb gw gn gl gs ga gg:Nat)(e:Ex)(ao:Option Addr)(cap ar u op v ag:Nat)(lv:Value)(ls:List Int)(hoe:okE nc e)(hN:e.kids.size<N)(hls:ls.length=nc)(hnc:nc<=256)(hop:op<=255)(hv:v<=1)(hag:ag<=100000000)(hu:u+3*(e.kids.size+1)<=1000000000)(har:ar+1+(e.kids.size+1)<=1000000000) :
  kK rb lv ls (CxS rb gw gn gl gs ga gg e ao cap ar u op v ag) 224 #[pt0 gw,pt0 gn,pt0 ga,pt0 gl,pt0 gg,pt0 gs] (fun x=>(((bdy ls (emE ls e) ar u x).lay op ag 0).lay 25 0 0).con (v:Nat) 2 u) (256+300*(e.kids.size+1)+4):=by
 intro w o s X E K hm hd hks;have HC:=xE nc N HP e ao cap ar u w o rb lv ls s hoe hN hls hnc hu har K.sn hks (by omega) hd X E;rw[ah] at HC;have KK:Hid (∀ w' o',aa I17 w o w' o'->w'.cell? ⟨gw,0,none⟩=some (pt0 rb)/\(w'.cell? ⟨gn,0,none⟩=some (.int .i64 e.k)/\w'.cell? ⟨gn,1,none⟩=some (.int .i64 e.n)/\w'.cell? ⟨gn,2,none⟩=some (stv e.nm)/\w'.cell? ⟨gn,3,none⟩=some (.slice ao e.kids.len cap))/\w'.cell? ⟨gl,0,none⟩=some (.int .i64 (op:Nat))/\w'.cell? ⟨gs,0,none⟩=some (.int .i64 (v:Nat))/\w'.cell? ⟨gg,0,none⟩=some (.int .i64 (ag:Nat))/\w'.cell? ⟨ga,0,none⟩=some (.int .i64 (ar:Nat))/\w'.cell? ⟨ga,1,none⟩=some (.int .i64 (u:Nat))):=fun w' o' S=>by
  have K2:=K.step S aA;exact⟨bD K2.bw.1,(as K2.bn.1).1,bD K2.bl.1,bD K2.bs.1,bD K2.bg.1,(aE K2.ba.1).1,(aE K2.ba.1).2⟩
 obtain⟨c0,⟨n0,n1,n2,n3⟩,c2,c3,c4,a0,a1⟩:=KK.out _ _ (aa.refl I17 w o);have HKS:=Lib.hid hks;clear hks hls K HP;go_enter Tryz.func224,Tryz.ntmps224;go_upto_region 1 with (first|(go_at_call 225;refine HC.mono ?_;rintro z w2 ⟨rfl,⟨o2,E2,S2⟩,g2⟩))
 obtain⟨s2,hs2⟩:∃s2,s2=bdy ls (emE ls e) ar u s:=⟨_,rfl⟩
 rw[<-hs2] at E2 g2;have HS2:=Lib.hid hs2;clear hs2 HC c0 n0 n1 n2 n3 c2 c3 c4 a0 a1;obtain⟨c0,⟨n0,n1,n2,n3⟩,c2,c3,c4,a0,a1⟩:=KK.out _ _ S2;have HL:=bU op ag 0 w2 o2 rb lv ls s2 hop (by omega) (by omega) (by have:=g2.mes;omega) (X.step S2 aA) E2;go_upto_region 2 with (first|(go_at_call 47;refine HL.mono ?_;rintro z w3 ⟨rfl,o3,E3,S3⟩))
 have S23:=S2.trans S3;have g3:=g2.trans (bF s2 op ag 0);clear HL c0 n0 n1 n2 n3 c2 c3 c4 a0 a1;obtain⟨c0,⟨n0,n1,n2,n3⟩,c2,c3,c4,a0,a1⟩:=KK.out _ _ S23;have HL:=bU 25 0 0 w3 o3 rb lv ls (s2.lay op ag 0) (by omega) (by omega) (by omega) (by have:=g3.mes;omega) (X.step S23 aA) E3;go_upto_region 3 with (first|(go_at_call 47;refine HL.mono ?_;rintro z w4 ⟨rfl,o4,E4,S4⟩))
 have S24:=S23.trans S4;have g4:=g3.trans (bF (s2.lay op ag 0) 25 0 0);clear HL c0 n0 n1 n2 n3 c2 c3 c4 a0 a1;obtain⟨c0,⟨n0,n1,n2,n3⟩,c2,c3,c4,a0,a1⟩:=KK.out _ _ S24;have HL:=bY (v:Nat) 2 ar u w4 o4 rb lv ls ((s2.lay op ag 0).lay 25 0 0) (by omega) (by omega) (by omega) (g4.dp hd) (by have:=g4.mes;omega) (X.step S24 aA) E4;go_wp2_with (first|(go_at_call 86;refine HL.mono ?_;rintro z w5 ⟨rfl,o5,E5,S5⟩))
 go_end0
 exact⟨rfl,by rw[<-HS2.out];exact⟨⟨o5,E5,S24.trans S5⟩,(g4.trans (eC _ _ _ _ (by omega))).le (by omega)⟩⟩
theorem D8 (rb gw gs ga ar u v:Nat)(lv:Value)(ls:List Int)(hv:v<=1)(hu:u<=1000000000) :
  kK rb lv ls (fun w o=>Blk w o 0 gw (.cells #[pt0 rb] 87)/\Blk w o 0 gs (.cells #[.int .i64 (v:Nat)] 3)/\Blk w o 0 ga (.cells #[.int .i64 (ar:Nat),.int .i64 (u:Nat)] 91)) 226 #[pt0 gw,pt0 gs,pt0 ga] (fun t=>t.con (1-(v:Int)) 2 u) 2:=by
 intro w o s X E ⟨bw,bs,ba⟩ hm hd hks;have cw:=bD bw.1;have cs:=bD bs.1;obtain⟨a0,a1⟩:=aE ba.1;have HC:=bY (1-(v:Int)) 2 ar u w o rb lv ls s (by omega) (by omega) hu hd (by omega) X E;clear bw bs ba hks;go_enter Tryz.func226,Tryz.ntmps226;go_wp2_with (first|(go_at_call 86;refine HC.mono ?_;rintro e w2 ⟨rfl,o2,E2,S2⟩))
 go_end0
 exact⟨rfl,⟨o2,E2,S2⟩,eC s _ _ _ hu⟩
theorem Do:Ent 224:=fun _ _=>by kernel_rfl
theorem Dc:Ent 226:=fun _ _=>by kernel_rfl
theorem qs (nc N:Nat)(HP:fq nc N)(e:Ex)(ao:Option Addr)(cap op v ar u:Nat)(w:World)(o:Nat->Nat)(rb:Nat)(lv:Value)(ls:List Int)(s:Em)(hoe:okE nc e)(hN:e.kids.size<N)(hls:ls.length=nc)(hnc:nc<=256)(hop:op<=255)(hv:v<=1)(hu:u+3*(e.kids.size+1)<=1000000000)(har:ar+1+(e.kids.size+1)<=1000000000)(S:SnO w o e.kids ao)(hks:s.ks.length=ls.length)
  (hm:s.mes+(256+300*(e.kids.size+1)+8)<=100000000) (hd:s.dp<=1000000001) (X:EmX w o lv ls) (h:EmW w o rb lv s) :
  Calls Tryz.prog 152 #[pt0 rb,exN e ao cap,.int .i64 (op:Nat),.int .i64 (v:Nat),spV ar u] w (lA w o rb lv s (vX ls (emE ls e) op (v:Int) ar u s) (256+300*(e.kids.size+1)+8)):=by
 have hmf:∀ (fn:Fn) (first cap:Array Value) (w:World),(Instr.makeFunc fn first cap).run Tryz.prog w=.ok (.func fn first cap) w:=fun _ _ _ _=>rfl;rw[ah];obtain⟨g,hg⟩:∃g,g=w.heap.size:=⟨_,rfl⟩
 obtain⟨w1,hw1⟩:∃w1,w1=((((w.alloc (.cells #[pt0 rb] 87)).alloc (.cells (ed e ao cap) 34)).alloc (.cells #[.int .i64 (op:Nat)] 3)).alloc (.cells #[.int .i64 (v:Nat)] 3)).alloc (.cells #[.int .i64 (ar:Nat),.int .i64 (u:Nat)] 91):=⟨_,rfl⟩
 obtain⟨z1,z2,z3,z4,z5,z6,z7⟩:=al5 w (.cells #[pt0 rb] 87) (.cells (ed e ao cap) 34) (.cells #[.int .i64 (op:Nat)] 3) (.cells #[.int .i64 (v:Nat)] 3) (.cells #[.int .i64 (ar:Nat),.int .i64 (u:Nat)] 91);rw[<-hw1,<-hg] at z1 z2 z3 z4 z5 z6 z7;obtain⟨w2,hw2⟩:∃w2,w2=w1.alloc (.cells #[.int .i64 (s.ws.length:Nat)] 3):=⟨_,rfl⟩
 have y6:w2.heap[g+5]?=some (.cells #[.int .i64 (s.ws.length:Nat)] 3):=by rw[hw2,<-z6];exact heap_alloc_new _ _
 have hold:∀ k,k<g+5->w2.heap[k]?=w1.heap[k]?:=fun k hk=>by rw[hw2];exact heap_alloc_old _ _ (by omega)
 have B2:Below g w w2:=by rw[hw2];exact z7.alloc (by omega) _
 have s0:∀ {I:Nat->Prop},aa I w o w2 (ae w o 0):=fun {I}=>dJ o (by rw[<-hg];exact B2);have hnl:∀ j,ae w o 0 (g+j)=0:=fun j=>ax (by omega);have K2:CxS rb g (g+1) (g+2) (g+3) (g+4) (g+5) e ao cap ar u op v s.ws.length w2 (ae w o 0) :=
  ⟨⟨(hold _ (by omega)).trans z1,hnl 0⟩,⟨(hold _ (by omega)).trans z2,hnl 1⟩,⟨(hold _ (by omega)).trans z3,hnl 2⟩,⟨(hold _ (by omega)).trans z4,hnl 3⟩,⟨(hold _ (by omega)).trans z5,hnl 4⟩,⟨y6,hnl 5⟩,S.stepO (s0 (I:=fun _=>False)) id⟩
 have E2:=h.step (s0 (I:=fun _=>False)) noF;have X2:=X.step (s0 (I:=fun _=>False)) id;have S0:=s0 (I:=I17);have HN:=qP w1 o rb lv s (h.below (by rw[<-hg];exact z7));have cw1:=bD z1;generalize ae w o 0=o1 at *;have hwl:s.ws.length<=100000000:=by unfold Em.mes at hm;omega
 have HF:=qY 24 224 226 #[pt0 g,pt0 (g+1),pt0 (g+4),pt0 (g+2),pt0 (g+5),pt0 (g+3)] #[pt0 g,pt0 (g+3),pt0 (g+4)] (fun x=>(((bdy ls (emE ls e) ar u x).lay op s.ws.length 0).lay 25 0 0).con (v:Nat) 2 u) (fun t=>t.con (1-(v:Int)) 2 u) (256+300*(e.kids.size+1)+4) 2 _ (CxS.keeps _ _ _ _ _ _ _ _ _ _ _ _ _ _ _) Do Dc w2 o1 rb lv ls (Ei nc N HP rb g (g+1) (g+2) (g+3) (g+4) (g+5) e ao cap ar u op v s.ws.length lv ls hoe hN hls hnc hop hv hwl hu har) ((D8 rb g (g+3) (g+4) ar u v lv ls hv (by omega)).mono (fun _ _ h=>⟨h.bw,h.bs,h.ba⟩)) s (by omega) (by omega) hd hks X2 E2 K2;have HG:=Lib.hid hg;have HZ:=Lib.hid z6;have c2:=bD K2.bw.1;clear s0 hnl z1 z2 z3 z4 z5 z6 z7 y6 hold B2 h X S hg hks hls HP X2 E2 K2;go_enter Tryz.func152,Tryz.ntmps152;go_upto_region 1 with fail;rw[<-hw1,<-HG.out];clear hw1;go_upto_region 2 with (first|(go_at_call 223;refine HN.mono ?_;rintro z w1b ⟨rfl,hww⟩;subst hww))
 rw[<-hw2,HZ.out];clear hw2;go_wp2_with (first|(go_at_call 91;refine HF.mono ?_;rintro z w4 ⟨rfl,⟨o4,E4,S4⟩,g4⟩))
 go_end0
 exact⟨rfl,⟨o4,E4,S0.trans S4⟩,g4.le (by omega)⟩
def ms (rb:Nat)(lv:Value)(ls:List Int)(K:World->(Nat->Nat)->Prop)(F:FuncId)(c:Array Value)(t:Nat->Em->Em)(n:Nat):Prop :=
 ∀ ag:Nat,ag<=100000000->∀ w o s,EmX w o lv ls->EmW w o rb lv s->K w o->s.mes+n<=100000000->s.dp<=1000000001->s.ks.length=ls.length->Calls Tryz.prog F (#[.int .i64 (ag:Nat)]++c) w (lA w o rb lv s (t ag s) n)
theorem jy (nc N:Nat)(HP:fq nc N)(F:FuncId)(c:Array Value)(t:Nat->Em->Em)(n:Nat)(K:World->(Nat->Nat)->Prop)(hK:lG K)(HE:Ent F)(e:Ex)(ao:Option Addr)(cap ar u:Nat)(w:World)(o:Nat->Nat)(rb:Nat)(lv:Value)(ls:List Int)(H:ms rb lv ls K F c t n)(s:Em)(hoe:okE nc e)(hN:e.kids.size<N)(hls:ls.length=nc)(hnc:nc<=256)(hu:u+3*(e.kids.size+1)<=1000000000)(har:ar+1+(e.kids.size+1)<=1000000000)(S:SnO w o e.kids ao)(hks:s.ks.length=ls.length)
  (hm:s.mes+(256+300*(e.kids.size+1)+n+2)<=100000000) (hd:s.dp<=1000000001) (X:EmX w o lv ls) (h:EmW w o rb lv s) (k:K w o) :
  Calls Tryz.prog 153 #[pt0 rb,exN e ao cap,spV ar u,.func (.func F) #[] c] w (lA w o rb lv s (mN ls (emE ls e) t ar u s) (256+300*(e.kids.size+1)+n+2)):=by
 rw[ah];obtain⟨g,hg⟩:∃g,g=w.heap.size:=⟨_,rfl⟩
 obtain⟨w1,hw1⟩:∃w1,w1=(w.alloc (.cells (ed e ao cap) 34)).alloc (.cells #[.int .i64 (ar:Nat),.int .i64 (u:Nat)] 91):=⟨_,rfl⟩
 obtain⟨z1,z2,z5,z6⟩:=al2 w (.cells (ed e ao cap) 34) (.cells #[.int .i64 (ar:Nat),.int .i64 (u:Nat)] 91);rw[<-hw1,<-hg] at z1 z2 z5 z6;have s0:∀ {I:Nat->Prop},aa I w o w1 (ae w o 0):=fun {I}=>dJ o (by rw[<-hg];exact z6);have hnl:∀ j,ae w o 0 (g+j)=0:=fun j=>ax (by omega);have K1:Blk w1 (ae w o 0) 0 g (.cells (ed e ao cap) 34)/\Blk w1 (ae w o 0) 0 (g+1) (.cells #[.int .i64 (ar:Nat),.int .i64 (u:Nat)] 91):=⟨⟨z1,hnl 0⟩,⟨z2,hnl 1⟩⟩
 have SN1:=S.stepO (s0 (I:=fun _=>False)) id;have E1:=h.step (s0 (I:=fun _=>False)) noF;have X1:=X.step (s0 (I:=fun _=>False)) id;have S0:=s0 (I:=I17);have k1:=hK k S0;generalize ae w o 0=o1 at *;have KK:Hid (∀ w' o',aa I17 w1 o1 w' o'->(w'.cell? ⟨g,0,none⟩=some (.int .i64 e.k)/\w'.cell? ⟨g,1,none⟩=some (.int .i64 e.n)/\w'.cell? ⟨g,2,none⟩=some (stv e.nm)/\w'.cell? ⟨g,3,none⟩=some (.slice ao e.kids.len cap))/\w'.cell? ⟨g+1,0,none⟩=some (.int .i64 (ar:Nat))/\w'.cell? ⟨g+1,1,none⟩=some (.int .i64 (u:Nat))):=fun w' o' S=>⟨(as (K1.1.step S aA).1).1,(aE (K1.2.step S aA).1).1,(aE (K1.2.step S aA).1).2⟩;have HN:=qP w1 o1 rb lv s E1;have HL:=bU 24 0 0 w1 o1 rb lv ls s (by omega) (by omega) (by omega) (by omega) X1 E1;have HKS:=Lib.hid hks;have HG:=Lib.hid hg;have hwl:s.ws.length<=100000000:=by unfold Em.mes at hm;omega
 have g1:=bF s 24 0 0;have HT:Hid (mN ls (emE ls e) t ar u s=((t s.ws.length (bdy ls (emE ls e) ar u (s.lay 24 0 0))).lay 13 s.ws.length 0).land s.ws.length):=rfl;have HB:∀ w2 o2,EmX w2 o2 lv ls->EmW w2 o2 rb lv (s.lay 24 0 0)->SnO w2 o2 e.kids ao->_:=fun w2 o2 X2 E2 SN2=>xE nc N HP e ao cap ar u w2 o2 rb lv ls (s.lay 24 0 0) hoe hN hls hnc hu har SN2 (g1.ks.trans hks) (by have:=g1.mes;omega) (g1.dp hd) X2 E2;clear s0 hnl z1 z2 z5 z6 h X S hg hks hls HP K1 k E1
 go_enter_defers Tryz.func153,Tryz.ntmps153
 go_upto_region 1 with fail;rw[<-hw1,<-HG.out];clear hw1;go_upto_region 2 with (first|(go_at_call 223;refine HN.mono ?_;rintro z w1b ⟨rfl,hww⟩;subst hww))
 go_upto_region 3 with (first|(go_at_call 47;refine HL.mono ?_;rintro z w2 ⟨rfl,o2,E2,S2⟩))
 clear HN HL;have HC:=HB w2 o2 (X1.step S2 aA) E2 (SN1.stepO S2 aA);rw[ah] at HC;obtain⟨⟨n0,n1,n2,n3⟩,a0,a1⟩:=KK.out _ _ S2;go_upto_region 4 with (first|(go_at_call 225;refine HC.mono ?_;rintro z w3 ⟨rfl,⟨o3,E3,S3⟩,g3⟩))
 obtain⟨s3,hs3⟩:∃s3,s3=bdy ls (emE ls e) ar u (s.lay 24 0 0):=⟨_,rfl⟩
 rw[<-hs3] at E3 g3 HT;clear hs3 HB HC n0 n1 n2 n3 a0 a1;have S13:=S2.trans S3;have g13:=g1.trans g3;have HF:=H s.ws.length hwl w3 o3 s3 (X1.step S13 aA) E3 (hK k1 S13) (by have:=g13.mes;omega) (g13.dp hd) (g13.ks.trans HKS.out);go_wp2_with fail;refine HF.mono ?_;rintro z w4 ⟨rfl,⟨o4,E4,S4⟩,g4⟩;obtain⟨s4,hs4⟩:∃s4,s4=t s.ws.length s3:=⟨_,rfl⟩
 rw[<-hs4] at E4 g4 HT;clear hs4 HF HE;have S14:=S13.trans S4;have g14:=g13.trans g4;have HL:=bU 13 s.ws.length 0 w4 o4 rb lv ls s4 (by omega) (by omega) (by omega) (by have:=g14.mes;omega) (X1.step S14 aA) E4;go_wp2_with (first|(go_at_call 47;refine HL.mono ?_;rintro z w5 ⟨rfl,o5,E5,S5⟩));have S15:=S14.trans S5;have g15:=g14.trans (bF s4 13 s.ws.length 0);have hlt:s.ws.length<(s4.lay 13 s.ws.length 0).ws.length:=by
  have h1:=g4.ws;have h2:=g3.ws;have h3:(s.lay 24 0 0).ws.length=s.ws.length+1:=by simp[Em.lay]
  have h4:(s4.lay 13 s.ws.length 0).ws.length=s4.ws.length+1:=by simp[Em.lay]
  omega
 have HD:=nV s.ws.length .returning w5 o5 rb lv ls (s4.lay 13 s.ws.length 0) hlt (by have:=g15.mes;omega) (X1.step S15 aA) E5;refine leaves_cons (f:=150) (args:=#[.pointer (some ⟨rb,0,none⟩),.int .i64 (s.ws.length:Nat)]) (by simp) (by simp[go_sem]) ?_;refine HD.mono ?_;rintro z u' w6 ⟨rfl,rfl,o6,E6,S6⟩;exact⟨_,results_none rfl _ _ _,rfl,by rw[HT.out];exact⟨⟨o6,E6,(S0.trans S15).trans S6⟩,(g15.trans (kZ _ _)).le (by omega)⟩⟩
theorem DU (rb gw ga ar u:Nat)(lv:Value)(ls:List Int)(hu:u+1<=1000000000) :
  ms rb lv ls (fun w o=>Blk w o 0 gw (.cells #[pt0 rb] 87)/\Blk w o 0 ga (.cells #[.int .i64 (ar:Nat),.int .i64 (u:Nat)] 91)) 154 #[pt0 gw,pt0 ga] (fun g x=>((x.lay 14 g 0).con 1 1 (u+1)).lay 6 0 0) 4:=by
 intro ag hag w o s X E ⟨bw,ba⟩ hm hd hks;have HL:=bU 14 ag 0 w o rb lv ls s (by omega) (by omega) (by omega) (by omega) X E;have KK:Hid (∀ w' o',aa I17 w o w' o'->w'.cell? ⟨gw,0,none⟩=some (pt0 rb)/\w'.cell? ⟨ga,0,none⟩=some (.int .i64 (ar:Nat))/\w'.cell? ⟨ga,1,none⟩=some (.int .i64 (u:Nat))):=fun w' o' S=>⟨bD (bw.step S aA).1,(aE (ba.step S aA).1).1,(aE (ba.step S aA).1).2⟩;obtain⟨c0,a0,a1⟩:=KK.out _ _ (aa.refl I17 w o);have g1:=bF s 14 ag 0;have HO:=fun w'=>f6 ar u 1 w' (by omega) (by omega);clear bw ba hks;go_enter Tryz.func154,Tryz.ntmps154;go_upto_region 1 with (first|(go_at_call 47;refine HL.mono ?_;rintro z w2 ⟨rfl,o2,E2,S2⟩))
 clear HL c0 a0 a1;have d2:aa I17 w2 o2 w2.drew o2:=(aa.refl _ w2 o2).drew;have S2d:=S2.trans d2;obtain⟨c0,a0,a1⟩:=KK.out _ _ S2;obtain⟨e0,e1,e2⟩:=KK.out _ _ S2d;have XD:=X.step S2d aA;have ED:=E2.step ((aa.refl (fun _=>False) w2 o2).drew) noF;have HC:∀ w3,Below w2.drew.heap.size w2.drew w3->Calls Tryz.prog 86 #[.pointer (some ⟨rb,0,none⟩),.int .i64 1,.int .i64 1,spV ar (u+1)] w3 (j6 w3 o2 rb lv ((s.lay 14 ag 0).con 1 1 (u+1)) (.tuple #[])):=fun w3 B=>bY 1 1 ar (u+1) w3 o2 rb lv ls (s.lay 14 ag 0) (by omega) (by omega) (by omega) (g1.dp hd) (by have:=g1.mes;omega) (XD.below B) (ED.below B);go_region_held3 (fun wx=>wx.cell? ⟨gw,0,none⟩=some (pt0 rb)/\wx.cell? ⟨ga,0,none⟩=some (.int .i64 (ar:Nat))/\wx.cell? ⟨ga,1,none⟩=some (.int .i64 (u:Nat))) (go_keep) (first|(go_at_call 96;refine(HO _).mono ?_;rintro z w3 ⟨rfl,B3⟩;have S3:=S2d.trans (aa.ofBelow (I:=I17) o2 B3);obtain⟨e0,e1,e2⟩:=KK.out _ _ S3;have HC3:=HC w3 B3)|(go_at_call 86;refine HC3.mono ?_;rintro z w4 ⟨rfl,o4,E4,S4⟩;obtain⟨e0,e1,e2⟩:=KK.out _ _ (S3.trans S4)))
 all_goals
  have S34:=S3.trans S4;have g4:=g1.trans (eC (s.lay 14 ag 0) 1 1 (u+1) hu);have HL:=bU 6 0 0 w4 o4 rb lv ls ((s.lay 14 ag 0).con 1 1 (u+1)) (by omega) (by omega) (by omega) (by have:=g4.mes;omega) (X.step S34 aA) E4;clear HC HO HC3;go_wp2_with (first|(go_at_call 47;refine HL.mono ?_;rintro z w5 ⟨rfl,o5,E5,S5⟩))
  go_end0
  exact⟨rfl,⟨o5,E5,S34.trans S5⟩,(g4.trans (bF _ _ _ _)).le (by omega)⟩
theorem DL (rb gw:Nat)(lv:Value)(ls:List Int) :
  ms rb lv ls (fun w o=>Blk w o 0 gw (.cells #[pt0 rb] 87)) 155 #[pt0 gw] (fun _ x=>x.lay 6 0 0) 4:=by
 intro ag hag w o s X E bw hm hd hks;have HL:=bU 6 0 0 w o rb lv ls s (by omega) (by omega) (by omega) (by omega) X E;have c0:=bD bw.1;clear bw hks;go_enter Tryz.func155,Tryz.ntmps155;go_wp2_with (first|(go_at_call 47;refine HL.mono ?_;rintro z w5 ⟨rfl,o5,E5,S5⟩))
 go_end0
 exact⟨rfl,⟨o5,E5,S5⟩,(bF _ _ _ _).le (by omega)⟩
theorem BK (rb gw gn:Nat)(e:Ex)(ao:Option Addr)(cap:Nat)(lv:Value)(ls:List Int)(hn:e.n=5\/e.n=6) :
  ms rb lv ls (fun w o=>Blk w o 0 gw (.cells #[pt0 rb] 87)/\Blk w o 0 gn (.cells (ed e ao cap) 34)) 156 #[pt0 gw,pt0 gn] (fun _ x=>x.lay 26 (e.n-5).toNat 0) 4:=by
 intro ag hag w o s X E ⟨bw,bn⟩ hm hd hks;obtain⟨j,hj⟩:∃j:Nat,(j:Int)=e.n-5:=⟨(e.n-5).toNat,by omega⟩
 have hj2:(e.n-5).toNat=j:=by omega
 have hj3:j<=1:=by omega
 rw[hj2];have HL:=bU 26 j 0 w o rb lv ls s (by omega) (by omega) (by omega) (by omega) X E;have c0:=bD bw.1;obtain⟨⟨n0,n1,n2,n3⟩,-⟩:=as bn.1;have hb1:-9223372036854775808<=e.n-5/\e.n-5<=9223372036854775807:=by omega
 have hj4:e.n-5=(j:Int):=hj.symm;generalize e.n=en at *;clear bw bn hks hj hj2;go_enter Tryz.func156,Tryz.ntmps156;go_wp2_with (first|(go_at_call 47;refine HL.mono ?_;rintro z w5 ⟨rfl,o5,E5,S5⟩))
 go_end0
 exact⟨rfl,⟨o5,E5,S5⟩,(bF _ _ _ _).le (by omega)⟩
theorem Dd:Ent 154:=fun _ _=>by kernel_rfl
theorem Dh:Ent 155:=fun _ _=>by kernel_rfl
theorem yo:Ent 156:=fun _ _=>by kernel_rfl
end Go.Proofs.YtbjdkekhnajafaaGreatDoor
