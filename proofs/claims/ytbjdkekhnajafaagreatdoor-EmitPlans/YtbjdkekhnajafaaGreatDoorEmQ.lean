import Derived.Test.YtbjdkekhnajafaaGreatDoorEmO
set_option maxRecDepth 100000
set_option maxHeartbeats 8000000
namespace Go.Proofs.YtbjdkekhnajafaaGreatDoor
open Go.ChangeShapes Go.WideShapes Go.ChangeAt Go.RowKit
set_option linter.unusedVariables false
theorem stepN {I:Nat->Prop}{w w':World}(o:Nat->Nat)(b:Below w.heap.size w w'):Step I w o w' (newLab w o 0):=⟨b.os,b.tape,b.output,b.size,fun k hk=>newLab_old hk,fun k hk _=>b.block k hk⟩
theorem al2 (w:World)(a b:Obj):((w.alloc a).alloc b).heap[w.heap.size]?=some a/\((w.alloc a).alloc b).heap[w.heap.size+1]?=some b/\((w.alloc a).alloc b).heap.size=w.heap.size+2/\Below w.heap.size w ((w.alloc a).alloc b):=by
 refine⟨(heap_alloc_old _ _ (by simp)).trans (heap_alloc_new _ _),?_,by simp,((Below.refl _ w).alloc (Nat.le_refl _) _).alloc (by simp) _⟩
 have:=heap_alloc_new (w.alloc a) b
 rw[World.size_alloc] at this;exact this
theorem al3 (w:World)(a b c:Obj):(((w.alloc a).alloc b).alloc c).heap[w.heap.size]?=some a/\(((w.alloc a).alloc b).alloc c).heap[w.heap.size+1]?=some b/\(((w.alloc a).alloc b).alloc c).heap[w.heap.size+2]?=some c/\(((w.alloc a).alloc b).alloc c).heap.size=w.heap.size+3/\Below w.heap.size w (((w.alloc a).alloc b).alloc c):=by
 obtain⟨h1,h2,h3,h4⟩:=al2 w a b;refine⟨(heap_alloc_old _ _ (by omega)).trans h1,(heap_alloc_old _ _ (by omega)).trans h2,?_,by simp,h4.alloc (by omega) _⟩
 have:=heap_alloc_new ((w.alloc a).alloc b) c
 rw[h3] at this;exact this
theorem al4 (w:World)(a b c d:Obj):((((w.alloc a).alloc b).alloc c).alloc d).heap[w.heap.size]?=some a/\((((w.alloc a).alloc b).alloc c).alloc d).heap[w.heap.size+1]?=some b/\((((w.alloc a).alloc b).alloc c).alloc d).heap[w.heap.size+2]?=some c/\((((w.alloc a).alloc b).alloc c).alloc d).heap[w.heap.size+3]?=some d/\((((w.alloc a).alloc b).alloc c).alloc d).heap.size=w.heap.size+4/\Below w.heap.size w ((((w.alloc a).alloc b).alloc c).alloc d):=by
 obtain⟨h1,h2,h3,h4,h5⟩:=al3 w a b c;refine⟨(heap_alloc_old _ _ (by omega)).trans h1,(heap_alloc_old _ _ (by omega)).trans h2,(heap_alloc_old _ _ (by omega)).trans h3,?_,by simp,h5.alloc (by omega) _⟩
 have:=heap_alloc_new (((w.alloc a).alloc b).alloc c) d
 rw[h4] at this;exact this
theorem al5 (w:World)(a b c d e:Obj):(((((w.alloc a).alloc b).alloc c).alloc d).alloc e).heap[w.heap.size]?=some a/\(((((w.alloc a).alloc b).alloc c).alloc d).alloc e).heap[w.heap.size+1]?=some b/\(((((w.alloc a).alloc b).alloc c).alloc d).alloc e).heap[w.heap.size+2]?=some c/\(((((w.alloc a).alloc b).alloc c).alloc d).alloc e).heap[w.heap.size+3]?=some d/\(((((w.alloc a).alloc b).alloc c).alloc d).alloc e).heap[w.heap.size+4]?=some e/\(((((w.alloc a).alloc b).alloc c).alloc d).alloc e).heap.size=w.heap.size+5/\Below w.heap.size w (((((w.alloc a).alloc b).alloc c).alloc d).alloc e):=by
 obtain⟨h1,h2,h3,h4,h5,h6⟩:=al4 w a b c d;refine⟨(heap_alloc_old _ _ (by omega)).trans h1,(heap_alloc_old _ _ (by omega)).trans h2,(heap_alloc_old _ _ (by omega)).trans h3,(heap_alloc_old _ _ (by omega)).trans h4,?_,by simp,h6.alloc (by omega) _⟩
 have:=heap_alloc_new ((((w.alloc a).alloc b).alloc c).alloc d) e
 rw[h5] at this;exact this
set_option linter.unusedSimpArgs false
abbrev pt0 (b:Nat):Value:=.pointer (some ⟨b,0,none⟩)
theorem not0:¬I17 0:=by decide
def EPart (nc N:Nat):Prop:=∀ (e:Ex) (ao:Option Addr) (cap ar u:Nat) (w:World) (o:Nat->Nat) (rb:Nat) (lv:Value) (ls:List Int) (s:Em),e.kids.size<N->okE nc e->ls.length=nc->nc<=256->SnO w o e.kids ao->s.ks.length=ls.length ->
 s.mes+300*(e.kids.size+1)<=100000000->u+3*(e.kids.size+1)<=1000000000->ar+(e.kids.size+1)<=1000000000->s.dp<=1000000001->EmX w o lv ls->EmW w o rb lv s ->
 Calls Tryz.prog 46 #[pt0 rb,exN e ao cap,spV ar u] w (PosQ w o rb lv s (emE ls e ar u s) (300*(e.kids.size+1)))
structure Cx (rb gw gn ga:Nat)(k n:Int)(nm:List UInt8)(f:Fs)(ao:Option Addr)(cap ar u:Nat)(w:World)(o:Nat->Nat):Prop where
 bw:Blk w o 0 gw (.cells #[pt0 rb] 87)
 bn:Blk w o 0 gn (.cells #[.int .i64 k,.int .i64 n,stv nm,.slice ao f.len cap] 34)
 ba:Blk w o 0 ga (.cells #[.int .i64 (ar:Nat),.int .i64 (u:Nat)] 91)
 sn:SnO w o f ao
theorem Cx.step {I:Nat->Prop}{rb gw gn ga:Nat}{k n:Int}{nm:List UInt8}{f:Fs}{ao:Option Addr}{cap ar u:Nat}{w w':World}{o o':Nat->Nat}(h:Cx rb gw gn ga k n nm f ao cap ar u w o)(x:Step I w o w' o')(hi:¬I 0):Cx rb gw gn ga k n nm f ao cap ar u w' o' :=
 ⟨h.bw.step x hi,h.bn.step x hi,h.ba.step x hi,h.sn.stepO x hi⟩
theorem Cx.keeps (rb gw gn ga:Nat)(k n:Int)(nm:List UInt8)(f:Fs)(ao:Option Addr)(cap ar u:Nat):Keeps (Cx rb gw gn ga k n nm f ao cap ar u):=fun h x=>h.step x not0
theorem cell1e {w:World}{b:Nat}{x:Value}{t:TypeId}(h:w.heap[b]?=some (.cells #[x] t)):w.cell? ⟨b,0,none⟩=some x:=by simp[World.cell?,h]
abbrev Nd4 (w:World)(b j:Nat)(y:Ex)(ak:Option Addr)(ck:Nat):Prop:=w.cell? ⟨b,j,none⟩=some (.int .i64 y.k)/\w.cell? ⟨b,j+1,none⟩=some (.int .i64 y.n)/\w.cell? ⟨b,j+2,none⟩=some (stv y.nm)/\w.cell? ⟨b,j+3,none⟩=some (.slice ak y.kids.len ck)
theorem Nd4.block {w w':World}{b j:Nat}{y:Ex}{ak:Option Addr}{ck:Nat}(h:Nd4 w b j y ak ck)(e:w'.heap[b]?=w.heap[b]?):Nd4 w' b j y ak ck :=
 ⟨(World.cell?_of_block (a:=⟨b,j,none⟩) e).trans h.1,(World.cell?_of_block (a:=⟨b,j+1,none⟩) e).trans h.2.1,(World.cell?_of_block (a:=⟨b,j+2,none⟩) e).trans h.2.2.1,(World.cell?_of_block (a:=⟨b,j+3,none⟩) e).trans h.2.2.2⟩
theorem kidO {w:World}{o:Nat->Nat}{x r:Fs}{y:Ex}{ao:Option Addr}(h:SnO w o (x.app (Fs.ex y r)) ao)(i:Nat)(hi:x.len=i):∃b off ak ck,ao=some ⟨b,off,none⟩/\Nd4 w b (off+i*4) y ak ck/\SnO w o y.kids ak/\∀ {I:Nat->Prop}{w':World}{o':Nat->Nat},Step I w o w' o'->¬I 0->Nd4 w' b (off+i*4) y ak ck:=by
 subst hi;obtain⟨b,off,ak,ck,rfl,hlt,hp,x0,x1,x2,x3,S⟩:=SlN.kidQ h;have N:Nd4 w b (off+x.len*4) y ak ck:=⟨x0,x1,x2,x3⟩
 exact⟨b,off,ak,ck,rfl,N,S,fun x hi=>N.block (x.block b hlt (by rw[hp];exact hi))⟩
theorem cl_part1 (nc N:Nat)(HP:EPart nc N)(rb gw gn ga:Nat)(k n:Int)(nm:List UInt8)(x y z:Ex)(ao:Option Addr)(cap ar u:Nat)(lv:Value)(ls:List Int)(hok:okF nc (Fs.ex x (Fs.ex y (Fs.ex z .nil))))(hN:y.kids.size<N)(hls:ls.length=nc)(hnc:nc<=256)(hu:u+3*(y.kids.size+1)<=1000000000)(har:ar+(y.kids.size+1)<=1000000000) :
  Does rb lv ls (Cx rb gw gn ga k n nm (Fs.ex x (Fs.ex y (Fs.ex z .nil))) ao cap ar u) 92 #[pt0 gw,pt0 gn,pt0 ga] (emE ls y ar u) (300*(y.kids.size+1)):=by
 intro w o s X E K hm hd hks;obtain⟨bw,bn,ba,sn⟩:=K;have d1:Step (fun _=>False) w o w.drew o:=(Step.refl _ w o).drew;obtain⟨b,off,ak,ck,rfl,NN,Sy,NK⟩:=kidO (x:=one x) sn 1 rfl;have hlen:(Fs.ex x (Fs.ex y (Fs.ex z .nil))).len=3:=rfl;rw[hlen] at bn;have cw:=cell1e bw.1;obtain⟨⟨n0,n1,n2,n3⟩,-⟩:=cells4e bn.1;obtain⟨a0,a1⟩:=spot_box ba.1;have HC:=HP y ak ck ar u w.drew o rb lv ls s hN (okF_ex (okF_ex hok).2).1 hls hnc (Sy.stepO d1 id) hks hm hu har hd (X.step d1 id) (E.step d1 noF);rw[exN_out] at HC;have SD:Step I17 w o w.drew o:=(Step.refl _ w o).drew;have KK:Hid (∀ w' o',Step I17 w.drew o w' o'->w'.cell? ⟨gw,0,none⟩=some (pt0 rb)/\w'.cell? ⟨gn,3,none⟩=some (.slice (some ⟨b,off,none⟩) 3 cap)/\Nd4 w' b (off+4) y ak ck/\w'.cell? ⟨ga,0,none⟩=some (.int .i64 (ar:Nat))/\w'.cell? ⟨ga,1,none⟩=some (.int .i64 (u:Nat))):=fun w' o' S=>by
  have S':=SD.trans S;exact⟨cell1e (bw.step S' not0).1,(cells4e (bn.step S' not0).1).1.2.2.2,NK S' not0,(spot_box (ba.step S' not0).1).1,(spot_box (ba.step S' not0).1).2⟩
 obtain⟨cw',n3',NN',a0',a1'⟩:=KK.out _ _ (Step.refl I17 w.drew o);obtain⟨x0,x1,x2,x3⟩:=NN;obtain⟨y0,y1,y2,y3⟩:=NN';clear bw bn ba sn Sy hlen d1 NK;go_enter Tryz.func92,Tryz.ntmps92;go_wp2_with fail;go_region_held3 (fun wx=>wx.cell? ⟨gw,0,none⟩=some (pt0 rb)/\wx.cell? ⟨gn,3,none⟩=some (.slice (some ⟨b,off,none⟩) 3 cap)/\(wx.cell? ⟨b,off+4,none⟩=some (.int .i64 y.k)/\wx.cell? ⟨b,off+4+1,none⟩=some (.int .i64 y.n)/\wx.cell? ⟨b,off+4+2,none⟩=some (stv y.nm)/\wx.cell? ⟨b,off+4+3,none⟩=some (.slice ak y.kids.len ck))/\wx.cell? ⟨ga,0,none⟩=some (.int .i64 (ar:Nat))/\wx.cell? ⟨ga,1,none⟩=some (.int .i64 (u:Nat))) (go_keep) (first|(go_at_call 46;refine HC.mono ?_;rintro e w2 ⟨rfl,⟨o2,E2,S2⟩,g2⟩;obtain⟨cw',n3',⟨y0,y1,y2,y3⟩,a0',a1'⟩:=KK.out _ _ S2))
 all_goals
  go_end0
  exact⟨rfl,⟨o2,E2,SD.trans S2⟩,g2⟩
theorem cl_part2 (nc N:Nat)(HP:EPart nc N)(rb gw gn ga:Nat)(k n:Int)(nm:List UInt8)(x y z:Ex)(ao:Option Addr)(cap ar u:Nat)(lv:Value)(ls:List Int)(hok:okF nc (Fs.ex x (Fs.ex y (Fs.ex z .nil))))(hN:z.kids.size<N)(hls:ls.length=nc)(hnc:nc<=256)(hu:u+3*(z.kids.size+1)<=1000000000)(har:ar+(z.kids.size+1)<=1000000000) :
  Does rb lv ls (Cx rb gw gn ga k n nm (Fs.ex x (Fs.ex y (Fs.ex z .nil))) ao cap ar u) 93 #[pt0 gw,pt0 gn,pt0 ga] (emE ls z ar u) (300*(z.kids.size+1)):=by
 intro w o s X E K hm hd hks;obtain⟨bw,bn,ba,sn⟩:=K;have d1:Step (fun _=>False) w o w.drew o:=(Step.refl _ w o).drew;obtain⟨b,off,ak,ck,rfl,NN,Sy,NK⟩:=kidO (x:=Fs.ex x (one y)) sn 2 rfl;have hlen:(Fs.ex x (Fs.ex y (Fs.ex z .nil))).len=3:=rfl;rw[hlen] at bn;have cw:=cell1e bw.1;obtain⟨⟨n0,n1,n2,n3⟩,-⟩:=cells4e bn.1;obtain⟨a0,a1⟩:=spot_box ba.1;have HC:=HP z ak ck ar u w.drew o rb lv ls s hN (okF_ex (okF_ex (okF_ex hok).2).2).1 hls hnc (Sy.stepO d1 id) hks hm hu har hd (X.step d1 id) (E.step d1 noF);rw[exN_out] at HC;have SD:Step I17 w o w.drew o:=(Step.refl _ w o).drew;have KK:Hid (∀ w' o',Step I17 w.drew o w' o'->w'.cell? ⟨gw,0,none⟩=some (pt0 rb)/\w'.cell? ⟨gn,3,none⟩=some (.slice (some ⟨b,off,none⟩) 3 cap)/\Nd4 w' b (off+8) z ak ck/\w'.cell? ⟨ga,0,none⟩=some (.int .i64 (ar:Nat))/\w'.cell? ⟨ga,1,none⟩=some (.int .i64 (u:Nat))):=fun w' o' S=>by
  have S':=SD.trans S;exact⟨cell1e (bw.step S' not0).1,(cells4e (bn.step S' not0).1).1.2.2.2,NK S' not0,(spot_box (ba.step S' not0).1).1,(spot_box (ba.step S' not0).1).2⟩
 obtain⟨cw',n3',NN',a0',a1'⟩:=KK.out _ _ (Step.refl I17 w.drew o);obtain⟨x0,x1,x2,x3⟩:=NN;obtain⟨y0,y1,y2,y3⟩:=NN';clear bw bn ba sn Sy hlen d1 NK;go_enter Tryz.func93,Tryz.ntmps93;go_wp2_with fail;go_region_held3 (fun wx=>wx.cell? ⟨gw,0,none⟩=some (pt0 rb)/\wx.cell? ⟨gn,3,none⟩=some (.slice (some ⟨b,off,none⟩) 3 cap)/\(wx.cell? ⟨b,off+8,none⟩=some (.int .i64 z.k)/\wx.cell? ⟨b,off+8+1,none⟩=some (.int .i64 z.n)/\wx.cell? ⟨b,off+8+2,none⟩=some (stv z.nm)/\wx.cell? ⟨b,off+8+3,none⟩=some (.slice ak z.kids.len ck))/\wx.cell? ⟨ga,0,none⟩=some (.int .i64 (ar:Nat))/\wx.cell? ⟨ga,1,none⟩=some (.int .i64 (u:Nat))) (go_keep) (first|(go_at_call 46;refine HC.mono ?_;rintro e w2 ⟨rfl,⟨o2,E2,S2⟩,g2⟩;obtain⟨cw',n3',⟨y0,y1,y2,y3⟩,a0',a1'⟩:=KK.out _ _ S2))
 all_goals
  go_end0
  exact⟨rfl,⟨o2,E2,SD.trans S2⟩,g2⟩
theorem cl_con1 (nc N:Nat)(HP:EPart nc N)(rb gw gn ga:Nat)(k n:Int)(nm:List UInt8)(x y:Ex)(ao:Option Addr)(cap ar u:Nat)(lv:Value)(ls:List Int)(hok:okF nc (Fs.ex x (Fs.ex y .nil)))(hN:y.kids.size<N)(hls:ls.length=nc)(hnc:nc<=256)(hu:u+3*(y.kids.size+1)<=1000000000)(har:ar+(y.kids.size+1)<=1000000000) :
  Does rb lv ls (Cx rb gw gn ga k n nm (Fs.ex x (Fs.ex y .nil)) ao cap ar u) 148 #[pt0 gw,pt0 gn,pt0 ga] (emE ls y ar u) (300*(y.kids.size+1)):=by
 intro w o s X E K hm hd hks;obtain⟨bw,bn,ba,sn⟩:=K;have d1:Step (fun _=>False) w o w.drew o:=(Step.refl _ w o).drew;obtain⟨b,off,ak,ck,rfl,NN,Sy,NK⟩:=kidO (x:=one x) sn 1 rfl;have hlen:(Fs.ex x (Fs.ex y .nil)).len=2:=rfl;rw[hlen] at bn;have cw:=cell1e bw.1;obtain⟨⟨n0,n1,n2,n3⟩,-⟩:=cells4e bn.1;obtain⟨a0,a1⟩:=spot_box ba.1;have HC:=HP y ak ck ar u w.drew o rb lv ls s hN (okF_ex (okF_ex hok).2).1 hls hnc (Sy.stepO d1 id) hks hm hu har hd (X.step d1 id) (E.step d1 noF);rw[exN_out] at HC;have SD:Step I17 w o w.drew o:=(Step.refl _ w o).drew;have KK:Hid (∀ w' o',Step I17 w.drew o w' o'->w'.cell? ⟨gw,0,none⟩=some (pt0 rb)/\w'.cell? ⟨gn,3,none⟩=some (.slice (some ⟨b,off,none⟩) 2 cap)/\Nd4 w' b (off+4) y ak ck/\w'.cell? ⟨ga,0,none⟩=some (.int .i64 (ar:Nat))/\w'.cell? ⟨ga,1,none⟩=some (.int .i64 (u:Nat))):=fun w' o' S=>by
  have S':=SD.trans S;exact⟨cell1e (bw.step S' not0).1,(cells4e (bn.step S' not0).1).1.2.2.2,NK S' not0,(spot_box (ba.step S' not0).1).1,(spot_box (ba.step S' not0).1).2⟩
 obtain⟨cw',n3',NN',a0',a1'⟩:=KK.out _ _ (Step.refl I17 w.drew o);obtain⟨x0,x1,x2,x3⟩:=NN;obtain⟨y0,y1,y2,y3⟩:=NN';clear bw bn ba sn Sy hlen d1 NK;go_enter Tryz.func148,Tryz.ntmps148;go_wp2_with fail;go_region_held3 (fun wx=>wx.cell? ⟨gw,0,none⟩=some (pt0 rb)/\wx.cell? ⟨gn,3,none⟩=some (.slice (some ⟨b,off,none⟩) 2 cap)/\(wx.cell? ⟨b,off+4,none⟩=some (.int .i64 y.k)/\wx.cell? ⟨b,off+4+1,none⟩=some (.int .i64 y.n)/\wx.cell? ⟨b,off+4+2,none⟩=some (stv y.nm)/\wx.cell? ⟨b,off+4+3,none⟩=some (.slice ak y.kids.len ck))/\wx.cell? ⟨ga,0,none⟩=some (.int .i64 (ar:Nat))/\wx.cell? ⟨ga,1,none⟩=some (.int .i64 (u:Nat))) (go_keep) (first|(go_at_call 46;refine HC.mono ?_;rintro e w2 ⟨rfl,⟨o2,E2,S2⟩,g2⟩;obtain⟨cw',n3',⟨y0,y1,y2,y3⟩,a0',a1'⟩:=KK.out _ _ S2))
 all_goals
  go_end0
  exact⟨rfl,⟨o2,E2,SD.trans S2⟩,g2⟩
theorem Does.mono {rb:Nat}{lv:Value}{ls:List Int}{K K':World->(Nat->Nat)->Prop}{F:FuncId}{c:Array Value}{t:Em->Em}{n:Nat}(h:Does rb lv ls K F c t n)(hk:∀ w o,K' w o->K w o):Does rb lv ls K' F c t n:=fun w o s X E k=>h w o s X E (hk w o k)
theorem cl_con2 (rb gw gs ga ar u v:Nat)(lv:Value)(ls:List Int)(hv:v<=1)(hu:u<=1000000000) :
  Does rb lv ls (fun w o=>Blk w o 0 gw (.cells #[pt0 rb] 87)/\Blk w o 0 gs (.cells #[.int .i64 (v:Nat)] 3)/\Blk w o 0 ga (.cells #[.int .i64 (ar:Nat),.int .i64 (u:Nat)] 91)) 149 #[pt0 gw,pt0 gs,pt0 ga] (fun t=>t.con (v:Nat) 2 u) 2:=by
 intro w o s X E ⟨bw,bs,ba⟩ hm hd hks;have cw:=cell1e bw.1;have cs:=cell1e bs.1;obtain⟨a0,a1⟩:=spot_box ba.1;have HC:=constant_c (v:Nat) 2 ar u w o rb lv ls s (by omega) (by omega) hu hd (by omega) X E;clear bw bs ba;go_enter Tryz.func149,Tryz.ntmps149;go_wp2_with (first|(go_at_call 86;refine HC.mono ?_;rintro e w2 ⟨rfl,o2,E2,S2⟩))
 go_end0
 exact⟨rfl,⟨o2,E2,S2⟩,gr_con s _ _ _ hu⟩
theorem ent_con1:Ent 148:=fun _ _=>by kernel_rfl
theorem ent_con2:Ent 149:=fun _ _=>by kernel_rfl
def CxI (rb gw gn gs ga:Nat)(k n:Int)(nm:List UInt8)(f:Fs)(ao:Option Addr)(cap ar u v:Nat)(w:World)(o:Nat->Nat):Prop:=Cx rb gw gn ga k n nm f ao cap ar u w o/\Blk w o 0 gs (.cells #[.int .i64 (v:Nat)] 3)
theorem CxI.keeps (rb gw gn gs ga:Nat)(k n:Int)(nm:List UInt8)(f:Fs)(ao:Option Addr)(cap ar u v:Nat):Keeps (CxI rb gw gn gs ga k n nm f ao cap ar u v):=fun h x=>⟨h.1.step x not0,h.2.step x not0⟩
theorem conn_c (nc N:Nat)(HP:EPart nc N)(k n:Int)(nm:List UInt8)(a:Int)(x y:Ex)(ao:Option Addr)(cap op v ar u:Nat)(w:World)(o:Nat->Nat)(rb:Nat)(lv:Value)(ls:List Int)(s:Em)(hop:op<=255)(hv:v<=1)(hok:okF nc (Fs.ex x (Fs.ex y .nil)))(hN1:x.kids.size<N)(hN2:y.kids.size<N)(hls:ls.length=nc)(hnc:nc<=256)(hu:u+3*(x.kids.size+y.kids.size+2)<=1000000000)(har:ar+(x.kids.size+y.kids.size+2)<=1000000000)(S:SnO w o (Fs.ex x (Fs.ex y .nil)) ao)(hks:s.ks.length=ls.length)
  (hm:s.mes+(300*(x.kids.size+1)+(300*(y.kids.size+1)+4))<=100000000) (hd:s.dp<=1000000001) (X:EmX w o lv ls) (h:EmW w o rb lv s) :
  Calls Tryz.prog 90 #[pt0 rb,exN ⟨k,n,nm,a,Fs.ex x (Fs.ex y .nil)⟩ ao cap,.int .i64 (op:Nat),.int .i64 (v:Nat),spV ar u] w (PosQ w o rb lv s ((emE ls x ar u s).fork op (emE ls y ar u) (fun t=>t.con (v:Nat) 2 u)) (300*(x.kids.size+1)+(300*(y.kids.size+1)+4))):=by
 have hmf:∀ (fn:Fn) (first cap:Array Value) (w:World),(Instr.makeFunc fn first cap).run Tryz.prog w=.ok (.func fn first cap) w:=fun _ _ _ _=>rfl;have hlen:(Fs.ex x (Fs.ex y .nil)).len=2:=rfl;rw[exN_out];simp only;obtain⟨g,hg⟩:∃g,g=w.heap.size:=⟨_,rfl⟩
 obtain⟨w1,hw1⟩:∃w1,w1=(((w.alloc (.cells #[pt0 rb] 87)).alloc (.cells #[.int .i64 k,.int .i64 n,stv nm,.slice ao (Fs.ex x (Fs.ex y .nil)).len cap] 34)).alloc (.cells #[.int .i64 (v:Nat)] 3)).alloc (.cells #[.int .i64 (ar:Nat),.int .i64 (u:Nat)] 91):=⟨_,rfl⟩
 obtain⟨z1,z2,z3,z4,z5,z6⟩:=al4 w (.cells #[pt0 rb] 87) (.cells #[.int .i64 k,.int .i64 n,stv nm,.slice ao (Fs.ex x (Fs.ex y .nil)).len cap] 34) (.cells #[.int .i64 (v:Nat)] 3) (.cells #[.int .i64 (ar:Nat),.int .i64 (u:Nat)] 91);rw[<-hw1,<-hg] at z1 z2 z3 z4 z5 z6;have s0:∀ {I:Nat->Prop},Step I w o w1 (newLab w o 0):=fun {I}=>stepN o (by rw[<-hg];exact z6);have hnl:∀ j,newLab w o 0 (g+j)=0:=fun j=>newLab_new (by omega);have K1:CxI rb g (g+1) (g+2) (g+3) k n nm (Fs.ex x (Fs.ex y .nil)) ao cap ar u v w1 (newLab w o 0):=⟨⟨⟨z1,hnl 0⟩,⟨z2,hnl 1⟩,⟨z4,hnl 3⟩,S.stepO (s0 (I:=fun _=>False)) id⟩,⟨z3,hnl 2⟩⟩
 have E1:=h.step (s0 (I:=fun _=>False)) noF;have X1:=X.step (s0 (I:=fun _=>False)) id;have S0:=s0 (I:=I17);generalize newLab w o 0=o1 at *;have HG:=Lib.hid hg;clear s0 hnl z1 z2 z3 z4 z5 z6 h X S hg;have d1:Step (fun _=>False) w1 o1 w1.drew o1:=(Step.refl _ w1 o1).drew;have SD:Step I17 w1 o1 w1.drew o1:=(Step.refl _ w1 o1).drew;have KD:=K1.1.step d1 id;obtain⟨b,off,ak,ck,rfl,NN,Sy,NK⟩:=kidO (x:=.nil) K1.1.sn 0 rfl;have HC:=HP x ak ck ar u w1.drew o1 rb lv ls s hN1 (okF_ex hok).1 hls hnc (Sy.stepO d1 id) hks (by omega) (by omega) (by omega) hd (X1.step d1 id) (E1.step d1 noF);rw[exN_out] at HC;rw[hlen] at hw1 ⊢;have KK:Hid (∀ w' o',Step I17 w1.drew o1 w' o'->w'.cell? ⟨g,0,none⟩=some (pt0 rb)/\w'.cell? ⟨g+1,3,none⟩=some (.slice (some ⟨b,off,none⟩) 2 cap)/\Nd4 w' b off x ak ck/\w'.cell? ⟨g+3,0,none⟩=some (.int .i64 (ar:Nat))/\w'.cell? ⟨g+3,1,none⟩=some (.int .i64 (u:Nat))):=fun w' o' S=>by
  have S':=SD.trans S;have K2:=K1.1.step S' not0;exact⟨cell1e K2.bw.1,(cells4e K2.bn.1).1.2.2.2,NK S' not0,(spot_box K2.ba.1).1,(spot_box K2.ba.1).2⟩
 obtain⟨cw',n3',NN',a0',a1'⟩:=KK.out _ _ (Step.refl I17 w1.drew o1);have cw:=cell1e K1.1.bw.1;have n3:=(cells4e K1.1.bn.1).1.2.2.2;rw[hlen] at n3;obtain⟨a0,a1⟩:=spot_box K1.1.ba.1;obtain⟨x0,x1,x2,x3⟩:=NN;obtain⟨y0,y1,y2,y3⟩:=NN';have FK:∀ w2 o2 s2,CxI rb g (g+1) (g+2) (g+3) k n nm (Fs.ex x (Fs.ex y .nil)) (some ⟨b,off,none⟩) cap ar u v w2 o2->EmX w2 o2 lv ls->EmW w2 o2 rb lv s2->s2.mes+(300*(y.kids.size+1)+2+2)<=100000000->s2.dp<=1000000001->s2.ks.length=ls.length->_:=fun w2 o2 s2 K2 X2 E2 hm2 hd2 hk2 =>
  fork_c op 148 149 #[pt0 g,pt0 (g+1),pt0 (g+3)] #[pt0 g,pt0 (g+2),pt0 (g+3)] (emE ls y ar u) (fun t=>t.con (v:Nat) 2 u) (300*(y.kids.size+1)) 2 _ (CxI.keeps _ _ _ _ _ _ _ _ _ _ _ _ _ _) ent_con1 ent_con2 w2 o2 rb lv ls ((cl_con1 nc N HP rb g (g+1) (g+3) k n nm x y (some ⟨b,off,none⟩) cap ar u lv ls hok hN2 hls hnc (by omega) (by omega)).mono (fun _ _ h=>h.1)) ((cl_con2 rb g (g+2) (g+3) ar u v lv ls hv (by omega)).mono (fun _ _ h=>⟨h.1.bw,h.2,h.1.ba⟩)) s2 hop hm2 hd2 hk2 X2 E2 K2
 clear hlen d1 NK Sy KD E1 hok hN1 hN2;go_enter Tryz.func90,Tryz.ntmps90;go_upto_region 1 with fail;rw[<-hw1,<-HG.out];clear hw1;go_region_held3 (fun wx=>wx.cell? ⟨g,0,none⟩=some (pt0 rb)/\wx.cell? ⟨g+1,3,none⟩=some (.slice (some ⟨b,off,none⟩) 2 cap)/\(wx.cell? ⟨b,off,none⟩=some (.int .i64 x.k)/\wx.cell? ⟨b,off+1,none⟩=some (.int .i64 x.n)/\wx.cell? ⟨b,off+2,none⟩=some (stv x.nm)/\wx.cell? ⟨b,off+3,none⟩=some (.slice ak x.kids.len ck))/\wx.cell? ⟨g+3,0,none⟩=some (.int .i64 (ar:Nat))/\wx.cell? ⟨g+3,1,none⟩=some (.int .i64 (u:Nat))) (go_keep) (first|(go_at_call 46;refine HC.mono ?_;rintro e w2 ⟨rfl,⟨o2,E2,S2⟩,g2⟩;obtain⟨cw',n3',⟨y0,y1,y2,y3⟩,a0',a1'⟩:=KK.out _ _ S2))
 all_goals
  have S3:=SD.trans S2;have HF:=FK w2 o2 _ ⟨K1.1.step S3 not0,K1.2.step S3 not0⟩ (X1.step S3 not0) E2 (by have:=g2.mes;omega) (g2.dp hd) (g2.ks.trans hks);clear FK HC KK K1;go_wp2_with (first|(go_at_call 91;refine HF.mono ?_;rintro e w4 ⟨rfl,⟨o4,E4,S4⟩,g4⟩))
  go_end0
  exact⟨rfl,⟨o4,E4,(S0.trans S3).trans S4⟩,(g2.trans g4).le (by omega)⟩
theorem cell_c (nc N:Nat)(HP:EPart nc N)(n:Int)(nm:List UInt8)(a:Int)(x:Ex)(ao:Option Addr)(cap ar u:Nat)(w:World)(o:Nat->Nat)(rb:Nat)(lv:Value)(ls:List Int)(s:Em)(hoe:okE nc ⟨26,n,nm,a,Fs.ex x .nil⟩)(hN1:x.kids.size<N)(hls:ls.length=nc)(hnc:nc<=256)(hu:u+3*(x.kids.size+1)<=1000000000)(har:ar+(x.kids.size+1)<=1000000000)(S:SnO w o (Fs.ex x .nil) ao)(hks:s.ks.length=ls.length)
  (hm:s.mes+(300*(x.kids.size+1)+2)<=100000000) (hd:s.dp<=1000000001) (X:EmX w o lv ls) (h:EmW w o rb lv s) :
  Calls Tryz.prog 94 #[pt0 rb,exN ⟨26,n,nm,a,Fs.ex x .nil⟩ ao cap,spV ar u] w (PosQ w o rb lv s (((emE ls x ar u ((s.cel n.toNat (kdE x)).lay 17 n.toNat 0)).lay 18 n.toNat 0).land s.ws.length) (300*(x.kids.size+1)+2)):=by
 have hok:okF nc (Fs.ex x .nil):=hoe.2;have hn:0<=n/\n<(nc:Int):=hoe.1.2.2.1 rfl;obtain⟨n0,hn0⟩:∃n0:Nat,(n0:Int)=n:=⟨n.toNat,by omega⟩
 subst hn0;rw[Int.toNat_natCast];have hkx:=kdE_bd (okF_ex hok).1;have hlen:(Fs.ex x .nil).len=1:=rfl;have HKO:=fun w2 (S2:SnA w2 (Fs.ex x .nil) ao)=>kindOf_c nc ((Fs.ex x .nil).size+1) ⟨26,(n0:Int),nm,a,Fs.ex x .nil⟩ ao cap w2 (by show (Fs.ex x .nil).size < _;omega) hoe S2;have hke:kdE ⟨26,(n0:Int),nm,a,Fs.ex x .nil⟩=kdE x:=by simp only[kdE,kdF_ex];simp[kdN]
 rw[exN_out,hke] at HKO;rw[exN_out];simp only at HKO ⊢;obtain⟨g,hg⟩:∃g,g=w.heap.size:=⟨_,rfl⟩
 obtain⟨w1,hw1⟩:∃w1,w1=(w.alloc (.cells #[.int .i64 26,.int .i64 (n0:Nat),stv nm,.slice ao (Fs.ex x .nil).len cap] 34)).alloc (.cells #[.int .i64 (ar:Nat),.int .i64 (u:Nat)] 91):=⟨_,rfl⟩
 obtain⟨z1,z2,z5,z6⟩:=al2 w (.cells #[.int .i64 26,.int .i64 (n0:Nat),stv nm,.slice ao (Fs.ex x .nil).len cap] 34) (.cells #[.int .i64 (ar:Nat),.int .i64 (u:Nat)] 91);rw[<-hw1,<-hg] at z1 z2 z5 z6;have s0:∀ {I:Nat->Prop},Step I w o w1 (newLab w o 0):=fun {I}=>stepN o (by rw[<-hg];exact z6);have hnl:∀ j,newLab w o 0 (g+j)=0:=fun j=>newLab_new (by omega);have K1:Blk w1 (newLab w o 0) 0 g (.cells #[.int .i64 26,.int .i64 (n0:Nat),stv nm,.slice ao (Fs.ex x .nil).len cap] 34)/\Blk w1 (newLab w o 0) 0 (g+1) (.cells #[.int .i64 (ar:Nat),.int .i64 (u:Nat)] 91):=⟨⟨z1,hnl 0⟩,⟨z2,hnl 1⟩⟩
 have SN1:=S.stepO (s0 (I:=fun _=>False)) id;have E1:=h.step (s0 (I:=fun _=>False)) noF;have X1:=X.step (s0 (I:=fun _=>False)) id;have S0:=s0 (I:=I17);generalize newLab w o 0=o1 at *;have HG:=Lib.hid hg;clear s0 hnl z1 z2 z5 z6 h X S hg;rw[hlen] at hw1 K1 HKO ⊢;have d1:Step (fun _=>False) w1 o1 w1.drew o1:=(Step.refl _ w1 o1).drew;have HK:=HKO w1.drew (SN1.all.below (Below.refl _ w1).drew);obtain⟨b,off,ak,ck,rfl,NN,Sy,NK⟩:=kidO (x:=.nil) SN1 0 rfl;obtain⟨h1,h2,h3,vw,vc,vn,vk,mc,mn,q0,q1,q2,q3,q4,q5,q6⟩:=E1;obtain⟨gk,capk,rfl,ogk,-,-,hgl,hck,hfk⟩:=q4.pos (by rw[hks,hls];omega);have hne1:rb≠gk:=fun e=>by have:=q0.2;rw[e,ogk] at this;cases this
 have hne2:g≠gk:=fun e=>by have:=K1.1.2;rw[e,ogk] at this;cases this
 have hn0:n0<s.ks.length:=by rw[hks,hls];omega
 have HS:Hid (∀ w2,Below w1.heap.size w1 w2->EmW (w2.setCell ⟨gk,n0,none⟩ (.int .i64 (kdE x))) o1 rb lv (s.cel n0 (kdE x))/\Step I17 w1 o1 (w2.setCell ⟨gk,n0,none⟩ (.int .i64 (kdE x))) o1):=fun w2 B=>by
  have x0:=Step.ofBelow (I:=fun _=>False) o1 B;have x1:Step (fun k=>k=5) w1 o1 (w2.setCell ⟨gk,n0,none⟩ (.int .i64 (kdE x))) o1:=(Step.ofBelow o1 B).setCell ⟨gk,n0,none⟩ _ ogk;refine⟨⟨h1,h2,h3,_,_,_,_,mc,mn,q0.step x1 (by decide),q1.step x1 (by decide),q2.step x1 (by decide),q3.step x1 (by decide),?_,q5.step x1 (by decide),q6.step x1 (by decide)⟩,x1.mono (I17_of (by decide))⟩;have r:=(q4.step x0 id).store n0 (.int .i64 (kdE x));have e2:eiV (s.cel n0 (kdE x)).ks=(eiV s.ks).set n0 (.int .i64 (kdE x)):=by simp[eiV,Em.cel]
  have e3:(s.cel n0 (kdE x)).ks.length=s.ks.length:=by simp[Em.cel]
  rw[e2,e3];exact r
 have KK:Hid (∀ w' o',Step I17 w1 o1 w' o'->w'.cell? ⟨g,0,none⟩=some (.int .i64 26)/\w'.cell? ⟨g,1,none⟩=some (.int .i64 (n0:Nat))/\w'.cell? ⟨g,2,none⟩=some (stv nm)/\w'.cell? ⟨g,3,none⟩=some (.slice (some ⟨b,off,none⟩) 1 cap)/\Nd4 w' b off x ak ck/\w'.cell? ⟨g+1,0,none⟩=some (.int .i64 (ar:Nat))/\w'.cell? ⟨g+1,1,none⟩=some (.int .i64 (u:Nat))):=fun w' o' S=>by
  obtain⟨⟨e0,e1,e2,e3⟩,-⟩:=cells4e (K1.1.step S not0).1;obtain⟨f0,f1⟩:=spot_box (K1.2.step S not0).1;exact⟨e0,e1,e2,e3,NK S not0,f0,f1⟩
 have FZ:Hid (∀ w2,Below w1.heap.size w1 w2->w2.cell? ⟨rb,3,none⟩=some (.slice (some ⟨gk,0,none⟩) s.ks.length capk)/\(∃v,w2.cell? ⟨gk,n0,none⟩=some v)/\w2.frozen? ⟨gk,n0,none⟩=false):=fun w2 B=>by
  refine⟨(B.cell (p:=⟨rb,3,none⟩) q0.lt).trans (cells8 q0.1).1.2.2.2.1,⟨.int .i64 (s.ks[n0]),?_⟩,?_⟩
  ·rw[B.cell (p:=⟨gk,n0,none⟩) hgl,hck n0 (by omega)];simp[eiV,hn0]
  ·have e:=B.block gk hgl
   have:=hfk n0
   unfold World.frozen? at this ⊢;rw[e];exact this
 obtain⟨r3,⟨vz,rz⟩,rf⟩:=FZ.out w1 (Below.refl _ _);obtain⟨r3',⟨vz',rz'⟩,rf'⟩:=FZ.out w1.drew (Below.refl _ w1).drew;obtain⟨c0,c1,c2,c3,⟨x0,x1,x2,x3⟩,a0,a1⟩:=KK.out _ _ (Step.refl I17 w1 o1);obtain⟨d0,d1',d2,d3,⟨y0,y1,y2,y3⟩,b0,b1⟩:=KK.out _ _ ((Step.refl I17 w1 o1).drew);have hnI:(n0:Int)<(s.ks.length:Int):=by omega
 have SyD:=Sy;have gc:=gr_cel s n0 (kdE x);have gl:=gr_lay (s.cel n0 (kdE x)) 17 n0 0;clear q0 q1 q2 q3 q4 q5 q6 h1 h2 h3 hck hfk NK SN1 HKO hke hlen NN;generalize hkk:kdE x=kx at *
 go_enter_defers Tryz.func94,Tryz.ntmps94
 go_upto_region 1 with fail;rw[<-hw1,<-HG.out];clear hw1;go_region_held3 (fun wx=>wx.cell? ⟨g,0,none⟩=some (.int .i64 26)/\wx.cell? ⟨g,1,none⟩=some (.int .i64 (n0:Nat))/\wx.cell? ⟨g,2,none⟩=some (stv nm)/\wx.cell? ⟨g,3,none⟩=some (.slice (some ⟨b,off,none⟩) 1 cap)/\wx.cell? ⟨rb,3,none⟩=some (.slice (some ⟨gk,0,none⟩) s.ks.length capk)) (go_keep) (first|(go_at_call 87;refine HK.mono ?_;rintro e w2 ⟨rfl,B2⟩;have BB2:=((Below.refl _ w1).drew).trans B2;obtain⟨e0,e1,e2,e3,-,-,-⟩:=KK.out _ _ (Step.ofBelow o1 BB2);obtain⟨t3,⟨tz,tr⟩,tf⟩:=FZ.out w2 BB2;obtain⟨m0,m1,m2,m3,-,-,-⟩:=KK.out _ _ (HS.out w2 BB2).2;have mr:=(World.cell?_of_block (a:=⟨rb,3,none⟩) (heap_setCell_other w2 ⟨gk,n0,none⟩ rb (.int .i64 kx) hne1)).trans t3))
 all_goals
  obtain⟨ES,SS⟩:=HS.out w2 BB2;clear HS FZ HK m0 m1 m2 m3 mr t3 tz tr tf e0 e1 e2 e3 r3 r3' rz rz' rf rf' c0 c1 c2 c3 d0 d1' d2 d3 x0 x1 x2 x3 y0 y1 y2 y3 a0 a1 b0 b1;generalize w2.setCell ⟨gk,n0,none⟩ (.int .i64 kx)=w3 at *;have XS:=X1.step SS not0;have HL:=lay_c 17 n0 0 w3 o1 rb lv ls (s.cel n0 kx) (by omega) (by omega) (by omega) (by have:=gc.mes;omega) XS ES;obtain⟨c0,c1,c2,c3,⟨x0,x1,x2,x3⟩,a0,a1⟩:=KK.out _ _ SS;go_upto_region 3 with (first|(go_at_call 47;refine HL.mono ?_;rintro e w4 ⟨rfl,o4,E4,S4⟩))
  have ST:=SS.trans S4;have d4:Step (fun _=>False) w4 o4 w4.drew o4:=(Step.refl _ w4 o4).drew;have D4:Step I17 w4 o4 w4.drew o4:=(Step.refl _ w4 o4).drew;have STD:=ST.trans D4;have HC:=HP x ak ck ar u w4.drew o4 rb lv ls ((s.cel n0 kx).lay 17 n0 0) hN1 (okF_ex hok).1 hls hnc (Sy.stepO STD not0) ((gc.trans gl).ks.trans hks) (by have:=(gc.trans gl).mes;omega) (by omega) (by omega) ((gc.trans gl).dp hd) (X1.step STD not0) (E4.step d4 noF);rw[exN_out] at HC;clear c0 c1 c2 c3 x0 x1 x2 x3 a0 a1 HL;obtain⟨c0,c1,c2,c3,⟨x0,x1,x2,x3⟩,a0,a1⟩:=KK.out _ _ ST;obtain⟨e0,e1,e2,e3,⟨y0,y1,y2,y3⟩,b0,b1⟩:=KK.out _ _ STD;go_region_held3 (fun wx=>wx.cell? ⟨g,3,none⟩=some (.slice (some ⟨b,off,none⟩) 1 cap)/\(wx.cell? ⟨b,off,none⟩=some (.int .i64 x.k)/\wx.cell? ⟨b,off+1,none⟩=some (.int .i64 x.n)/\wx.cell? ⟨b,off+2,none⟩=some (stv x.nm)/\wx.cell? ⟨b,off+3,none⟩=some (.slice ak x.kids.len ck))/\wx.cell? ⟨g+1,0,none⟩=some (.int .i64 (ar:Nat))/\wx.cell? ⟨g+1,1,none⟩=some (.int .i64 (u:Nat))) (go_keep) (first|(go_at_call 46;refine HC.mono ?_;rintro e w5 ⟨rfl,⟨o5,E5,S5⟩,g5⟩;obtain⟨m0,m1,m2,m3,⟨z0,z1,z2,z3⟩,h0,h1⟩:=KK.out _ _ (STD.trans S5)))
  all_goals
   have SU:=STD.trans S5;have g15:=(gc.trans gl).trans g5;have HL:=lay_c 18 n0 0 w5 o5 rb lv ls (emE ls x ar u ((s.cel n0 kx).lay 17 n0 0)) (by omega) (by omega) (by omega) (by have:=g15.mes;omega) (X1.step SU not0) E5;clear HC c0 c1 c2 c3 x0 x1 x2 x3 a0 a1 e0 e1 e2 e3 y0 y1 y2 y3 b0 b1;obtain⟨s5,hs5⟩:∃s5,s5=emE ls x ar u ((s.cel n0 kx).lay 17 n0 0):=⟨_,rfl⟩
   rw[<-hs5] at E5 g5 g15 HL;have HS5:=Lib.hid hs5;clear hs5;go_wp2_with (first|(go_at_call 47;refine HL.mono ?_;rintro e w6 ⟨rfl,o6,E6,S6⟩));have hwl:s.ws.length<(s5.lay 18 n0 0).ws.length:=by
    have h1:=g5.ws;have h2:((s.cel n0 kx).lay 17 n0 0).ws.length=s.ws.length+1:=by simp[Em.lay,Em.cel]
    have h3:(s5.lay 18 n0 0).ws.length=s5.ws.length+1:=by simp[Em.lay]
    omega
   have g6:=g15.trans (gr_lay s5 18 n0 0);have HD:=land_d s.ws.length .returning w6 o6 rb lv ls (s5.lay 18 n0 0) hwl (by have:=g6.mes;omega) (X1.step (SU.trans S6) not0) E6;refine leaves_cons (f:=150) (args:=#[.pointer (some ⟨rb,0,none⟩),.int .i64 (s.ws.length:Nat)]) (by simp) (by simp[go_sem,Em.cel]) ?_;refine HD.mono ?_;rintro e u' w7 ⟨rfl,rfl,o7,E7,S7⟩;exact⟨_,results_none rfl _ _ _,rfl,by rw[<-HS5.out];exact⟨⟨o7,E7,((S0.trans SU).trans S6).trans S7⟩,(g6.trans (gr_land _ _)).le (by omega)⟩⟩
abbrev nodeC (e:Ex)(ao:Option Addr)(cap:Nat):Array Value:=#[.int .i64 e.k,.int .i64 e.n,stv e.nm,.slice ao e.kids.len cap]
theorem clrs_drop (h:Nat):∀ (l:List Int) (k:Nat) (s:Em) (x:Int) (r:List Int),l=x::r->clrs h l k s=clrs h r (k+1) (if x=(h:Int) then s.lay 19 k 0 else s)
 | _,k,s,x,r,rfl=>rfl
theorem body_c (nc N:Nat)(HP:EPart nc N)(e:Ex)(ao:Option Addr)(cap ar u:Nat)(w:World)(o:Nat->Nat)(rb:Nat)(lv:Value)(ls:List Int)(s:Em)(hoe:okE nc e)(hN:e.kids.size<N)(hls:ls.length=nc)(hnc:nc<=256)(hu:u+3*(e.kids.size+1)<=1000000000)(har:ar+1+(e.kids.size+1)<=1000000000)(S:SnO w o e.kids ao)(hks:s.ks.length=ls.length)
  (hm:s.mes+(256+300*(e.kids.size+1))<=100000000) (hd:s.dp<=1000000001) (X:EmX w o lv ls) (h:EmW w o rb lv s) :
  Calls Tryz.prog 225 #[pt0 rb,exN e ao cap,spV ar u] w (PosQ w o rb lv s (bdy ls (emE ls e) ar u s) (256+300*(e.kids.size+1))):=by
 subst hls;have HKS:=Lib.hid hks;clear hks;obtain⟨g,hg⟩:∃g,g=w.heap.size:=⟨_,rfl⟩
 obtain⟨w1,hw1⟩:∃w1,w1=(w.alloc (.cells (nodeC e ao cap) 34)).alloc (.cells #[.int .i64 (ar:Nat),.int .i64 (u:Nat)] 91):=⟨_,rfl⟩
 obtain⟨z1,z2,z5,z6⟩:=al2 w (.cells (nodeC e ao cap) 34) (.cells #[.int .i64 (ar:Nat),.int .i64 (u:Nat)] 91);rw[<-hw1,<-hg] at z1 z2 z5 z6;obtain⟨A,hA⟩:∃A,A=ar+1:=⟨_,rfl⟩
 have hAI:(ar:Int)+1=(A:Int):=by omega
 obtain⟨w2,hw2⟩:∃w2,w2=w1.setCell ⟨g+1,0,none⟩ (.int .i64 (A:Nat)):=⟨_,rfl⟩
 have B2:Below g w w2:=by rw[hw2];exact z6.setCell (p:=⟨g+1,0,none⟩) (by show g<=g+1;omega) _
 have y1:w2.heap[g]?=some (.cells (nodeC e ao cap) 34):=by rw[hw2];exact(heap_setCell_other w1 ⟨g+1,0,none⟩ g _ (by show g≠g+1;omega)).trans z1
 have y2:w2.heap[g+1]?=some (.cells #[.int .i64 (A:Nat),.int .i64 (u:Nat)] 91):=by
  rw[hw2]
  have:=heap_setCell_same w1 (g+1) 0 _ _ (.int .i64 (A:Nat)) z2
  simpa using this
 have s0:∀ {I:Nat->Prop},Step I w o w2 (newLab w o 0):=fun {I}=>stepN o (by rw[<-hg];exact B2);have hnl:∀ j,newLab w o 0 (g+j)=0:=fun j=>newLab_new (by omega);have K1:Blk w2 (newLab w o 0) 0 g (.cells (nodeC e ao cap) 34)/\Blk w2 (newLab w o 0) 0 (g+1) (.cells #[.int .i64 (A:Nat),.int .i64 (u:Nat)] 91):=⟨⟨y1,hnl 0⟩,⟨y2,hnl 1⟩⟩
 have SN1:=S.stepO (s0 (I:=fun _=>False)) id;have E1:=h.step (s0 (I:=fun _=>False)) noF;have X1:=X.step (s0 (I:=fun _=>False)) id;have S0:=s0 (I:=I17);generalize newLab w o 0=o1 at *;have HG:=Lib.hid hg;obtain⟨⟨c0,c1⟩,cf⟩:=cells2e z2;have cf0:=cf 0;clear s0 hnl z1 z2 z5 z6 h X S hg y1 y2 B2 cf;rw[exN_out];have KK:Hid (∀ w' o',Step I17 w2 o1 w' o'->w'.cell? ⟨g,0,none⟩=some (.int .i64 e.k)/\w'.cell? ⟨g,1,none⟩=some (.int .i64 e.n)/\w'.cell? ⟨g,2,none⟩=some (stv e.nm)/\w'.cell? ⟨g,3,none⟩=some (.slice ao e.kids.len cap)/\w'.cell? ⟨g+1,0,none⟩=some (.int .i64 (A:Nat))/\w'.cell? ⟨g+1,1,none⟩=some (.int .i64 (u:Nat))):=fun w' o' S=>by
  obtain⟨⟨e0,e1,e2,e3⟩,-⟩:=cells4e (K1.1.step S not0).1;obtain⟨f0,f1⟩:=spot_box (K1.2.step S not0).1;exact⟨e0,e1,e2,e3,f0,f1⟩
 obtain⟨al,cl,rfl,hlv⟩:=X1.lvs;have LV:Hid (∀ w' o',Step I17 w2 o1 w' o'->∀ j x,ls[j]?=some x->∃b off,al=some ⟨b,off,none⟩/\w'.cell? ⟨b,off+j,none⟩=some (.int .i64 x)):=fun w' o' S j x hx=>by
  rcases hlv with h|⟨b,off,h1,h2,h3,h4⟩
  ·rw[h] at hx;simp at hx
  ·exact⟨b,off,h1,(World.cell?_of_block (a:=⟨b,off+j,none⟩) (S.block b h3 (by rw[h2];exact not0))).trans (h4 j x hx)⟩
 have RB:Hid (∀ w' o' s',EmW w' o' rb (.slice al ls.length cl) s'->w'.cell? ⟨rb,6,none⟩=some (.slice al ls.length cl)):=fun w' o' s' E=>by
  obtain⟨-,-,-,vw,vc,vn,vk,mc,mn,q0,-⟩:=E;exact(cells8 q0.1).1.2.2.2.2.2.2.1
 obtain⟨W,hW⟩:∃W,W=clrs A ls 0 s:=⟨_,rfl⟩
 have HW:Hid (W=clrs A (ls.drop 0) 0 s):=by show _=_;rw[hW];rfl
 have HB:Hid (bdy ls (emE ls e) ar u s=emE ls e A u W):=by show _=_;rw[hW,hA];rfl
 have r6:=RB.out _ _ _ E1;obtain⟨k0,k1,k2,k3,a0,a1⟩:=KK.out _ _ (Step.refl I17 w2 o1);have hls2:ls.length<=256:=by omega
 have HA:=Lib.hid hA;clear hW hlv hA;go_enter Tryz.func225,Tryz.ntmps225;go_upto_region 1 with fail;rw[<-hw1,<-HG.out];clear hw1;go_upto_region 2 with fail;rw[<-hw2];clear hw2;clear hAI;go_wp2_with fail;go_loopw [17] (fun vi wr=>∃(k:Nat) (s':Em) (o':Nat->Nat),vi=.int .i64 (k:Nat)/\k<=ls.length/\EmW wr o' rb (.slice al ls.length cl) s'/\Step I17 w2 o1 wr o'/\Grw s s' k/\Hid (W=clrs A (ls.drop k) k s')) (fun vi _=>ls.length-(intOf vi).toNat)
 case atStart=>exact⟨0,s,o1,by go_num,by omega,E1,Step.refl _ _ _,⟨by omega,Nat.le_refl _,rfl,id⟩,HW⟩
 case round =>
  clear HW E1 r6 k0 k1 k2 k3 a0 a1 c0 c1 cf0;obtain⟨k,s',o',rfl,hk,E2,S2,g2,HW⟩:=hrel;obtain⟨k0,k1,k2,k3,a0,a1⟩:=KK.out _ _ S2;by_cases hlt:k<ls.length
  ·have hkI:(k:Int)<(ls.length:Int):=by omega
   have hx:ls[k]?=some ls[k]:=List.getElem?_eq_getElem hlt;have hdr:ls.drop k=ls[k]::ls.drop (k+1):=List.drop_eq_getElem_cons hlt;have HW2:=HW.out;rw[clrs_drop A _ k s' _ _ hdr] at HW2;obtain⟨b,off,rfl,cx⟩:=LV.out _ _ S2 k _ hx;generalize ls[k]=lx at *;by_cases he:lx=(A:Int)
   ·rw[if_pos he] at HW2;have HW3:=Lib.hid HW2;have HL:=lay_c 19 k 0 wr o' rb _ ls s' (by omega) (by omega) (by omega) (by have:=g2.mes;omega) (X1.step S2 not0) E2;have g3:=g2.trans (gr_lay s' 19 k 0);subst he;clear HW2 HW hx hdr;go_wp2_with (first|(go_at_call 47;refine HL.mono ?_;rintro e w3 ⟨rfl,o3,E3,S3⟩));go_roundw
    case rel=>(try ((repeat apply Exists.intro);refine⟨?_,rfl⟩));exact⟨k+1,s'.lay 19 k 0,o3,by go_num,by omega,E3,S2.trans S3,g3,HW3.out⟩
    case measure=>simp[intOf];omega
   ·rw[if_neg he] at HW2;have HW3:=Lib.hid HW2;have g3:=g2.le (m:=k+1) (by omega);clear HW2 HW hx hdr;go_wp2;go_roundw
    case rel=>(try ((repeat apply Exists.intro);refine⟨?_,rfl⟩));exact⟨k+1,s',o',by go_num,by omega,E2,S2,g3,HW3.out⟩
    case measure=>simp[intOf];omega
  ·have hkI:¬(k:Int)<(ls.length:Int):=by omega
   obtain rfl:k=ls.length:=by omega
   have HW2:=HW.out;rw[List.drop_length] at HW2;have HW3:W=s':=HW2;subst HW3;have hA:=HA.out;have HC:=HP e ao cap A u wr o' rb _ ls W hN hoe rfl hnc (SN1.stepO S2 not0) (g2.ks.trans HKS.out) (by have:=g2.mes;omega) hu (by omega) (g2.dp hd) (X1.step S2 not0) E2;rw[exN_out] at HC;have HBO:=HB;clear HW HW2 hA HP hlt;go_wp2_with (first|(go_at_call 46;refine HC.mono ?_;rintro e w3 ⟨rfl,⟨o3,E3,S3⟩,g3⟩))
   go_end0
   exact⟨rfl,by rw[HBO.out];exact⟨⟨o3,E3,(S0.trans S2).trans S3⟩,(g2.trans g3).le (by omega)⟩⟩
structure CxS (rb gw gn gl gs ga gg:Nat)(e:Ex)(ao:Option Addr)(cap ar u op v ag:Nat)(w:World)(o:Nat->Nat):Prop where
 bw:Blk w o 0 gw (.cells #[pt0 rb] 87)
 bn:Blk w o 0 gn (.cells (nodeC e ao cap) 34)
 bl:Blk w o 0 gl (.cells #[.int .i64 (op:Nat)] 3)
 bs:Blk w o 0 gs (.cells #[.int .i64 (v:Nat)] 3)
 ba:Blk w o 0 ga (.cells #[.int .i64 (ar:Nat),.int .i64 (u:Nat)] 91)
 bg:Blk w o 0 gg (.cells #[.int .i64 (ag:Nat)] 3)
 sn:SnO w o e.kids ao
theorem CxS.step {I:Nat->Prop}{rb gw gn gl gs ga gg:Nat}{e:Ex}{ao:Option Addr}{cap ar u op v ag:Nat}{w w':World}{o o':Nat->Nat}(h:CxS rb gw gn gl gs ga gg e ao cap ar u op v ag w o)(x:Step I w o w' o')(hi:¬I 0):CxS rb gw gn gl gs ga gg e ao cap ar u op v ag w' o' :=
 ⟨h.bw.step x hi,h.bn.step x hi,h.bl.step x hi,h.bs.step x hi,h.ba.step x hi,h.bg.step x hi,h.sn.stepO x hi⟩
theorem CxS.keeps (rb gw gn gl gs ga gg:Nat)(e:Ex)(ao:Option Addr)(cap ar u op v ag:Nat):Keeps (CxS rb gw gn gl gs ga gg e ao cap ar u op v ag):=fun h x=>h.step x not0
theorem cl_s1 (nc N:Nat)(HP:EPart nc N)(rb gw gn gl gs ga gg:Nat)(e:Ex)(ao:Option Addr)(cap ar u op v ag:Nat)(lv:Value)(ls:List Int)(hoe:okE nc e)(hN:e.kids.size<N)(hls:ls.length=nc)(hnc:nc<=256)(hop:op<=255)(hv:v<=1)(hag:ag<=100000000)(hu:u+3*(e.kids.size+1)<=1000000000)(har:ar+1+(e.kids.size+1)<=1000000000) :
  Does rb lv ls (CxS rb gw gn gl gs ga gg e ao cap ar u op v ag) 224 #[pt0 gw,pt0 gn,pt0 ga,pt0 gl,pt0 gg,pt0 gs] (fun x=>(((bdy ls (emE ls e) ar u x).lay op ag 0).lay 25 0 0).con (v:Nat) 2 u) (256+300*(e.kids.size+1)+4):=by
 intro w o s X E K hm hd hks;have HC:=body_c nc N HP e ao cap ar u w o rb lv ls s hoe hN hls hnc hu har K.sn hks (by omega) hd X E;rw[exN_out] at HC;have KK:Hid (∀ w' o',Step I17 w o w' o'->w'.cell? ⟨gw,0,none⟩=some (pt0 rb)/\(w'.cell? ⟨gn,0,none⟩=some (.int .i64 e.k)/\w'.cell? ⟨gn,1,none⟩=some (.int .i64 e.n)/\w'.cell? ⟨gn,2,none⟩=some (stv e.nm)/\w'.cell? ⟨gn,3,none⟩=some (.slice ao e.kids.len cap))/\w'.cell? ⟨gl,0,none⟩=some (.int .i64 (op:Nat))/\w'.cell? ⟨gs,0,none⟩=some (.int .i64 (v:Nat))/\w'.cell? ⟨gg,0,none⟩=some (.int .i64 (ag:Nat))/\w'.cell? ⟨ga,0,none⟩=some (.int .i64 (ar:Nat))/\w'.cell? ⟨ga,1,none⟩=some (.int .i64 (u:Nat))):=fun w' o' S=>by
  have K2:=K.step S not0;exact⟨cell1e K2.bw.1,(cells4e K2.bn.1).1,cell1e K2.bl.1,cell1e K2.bs.1,cell1e K2.bg.1,(spot_box K2.ba.1).1,(spot_box K2.ba.1).2⟩
 obtain⟨c0,⟨n0,n1,n2,n3⟩,c2,c3,c4,a0,a1⟩:=KK.out _ _ (Step.refl I17 w o);have HKS:=Lib.hid hks;clear hks hls K HP;go_enter Tryz.func224,Tryz.ntmps224;go_upto_region 1 with (first|(go_at_call 225;refine HC.mono ?_;rintro z w2 ⟨rfl,⟨o2,E2,S2⟩,g2⟩))
 obtain⟨s2,hs2⟩:∃s2,s2=bdy ls (emE ls e) ar u s:=⟨_,rfl⟩
 rw[<-hs2] at E2 g2;have HS2:=Lib.hid hs2;clear hs2 HC c0 n0 n1 n2 n3 c2 c3 c4 a0 a1;obtain⟨c0,⟨n0,n1,n2,n3⟩,c2,c3,c4,a0,a1⟩:=KK.out _ _ S2;have HL:=lay_c op ag 0 w2 o2 rb lv ls s2 hop (by omega) (by omega) (by have:=g2.mes;omega) (X.step S2 not0) E2;go_upto_region 2 with (first|(go_at_call 47;refine HL.mono ?_;rintro z w3 ⟨rfl,o3,E3,S3⟩))
 have S23:=S2.trans S3;have g3:=g2.trans (gr_lay s2 op ag 0);clear HL c0 n0 n1 n2 n3 c2 c3 c4 a0 a1;obtain⟨c0,⟨n0,n1,n2,n3⟩,c2,c3,c4,a0,a1⟩:=KK.out _ _ S23;have HL:=lay_c 25 0 0 w3 o3 rb lv ls (s2.lay op ag 0) (by omega) (by omega) (by omega) (by have:=g3.mes;omega) (X.step S23 not0) E3;go_upto_region 3 with (first|(go_at_call 47;refine HL.mono ?_;rintro z w4 ⟨rfl,o4,E4,S4⟩))
 have S24:=S23.trans S4;have g4:=g3.trans (gr_lay (s2.lay op ag 0) 25 0 0);clear HL c0 n0 n1 n2 n3 c2 c3 c4 a0 a1;obtain⟨c0,⟨n0,n1,n2,n3⟩,c2,c3,c4,a0,a1⟩:=KK.out _ _ S24;have HL:=constant_c (v:Nat) 2 ar u w4 o4 rb lv ls ((s2.lay op ag 0).lay 25 0 0) (by omega) (by omega) (by omega) (g4.dp hd) (by have:=g4.mes;omega) (X.step S24 not0) E4;go_wp2_with (first|(go_at_call 86;refine HL.mono ?_;rintro z w5 ⟨rfl,o5,E5,S5⟩))
 go_end0
 exact⟨rfl,by rw[<-HS2.out];exact⟨⟨o5,E5,S24.trans S5⟩,(g4.trans (gr_con _ _ _ _ (by omega))).le (by omega)⟩⟩
theorem cl_s2 (rb gw gs ga ar u v:Nat)(lv:Value)(ls:List Int)(hv:v<=1)(hu:u<=1000000000) :
  Does rb lv ls (fun w o=>Blk w o 0 gw (.cells #[pt0 rb] 87)/\Blk w o 0 gs (.cells #[.int .i64 (v:Nat)] 3)/\Blk w o 0 ga (.cells #[.int .i64 (ar:Nat),.int .i64 (u:Nat)] 91)) 226 #[pt0 gw,pt0 gs,pt0 ga] (fun t=>t.con (1-(v:Int)) 2 u) 2:=by
 intro w o s X E ⟨bw,bs,ba⟩ hm hd hks;have cw:=cell1e bw.1;have cs:=cell1e bs.1;obtain⟨a0,a1⟩:=spot_box ba.1;have HC:=constant_c (1-(v:Int)) 2 ar u w o rb lv ls s (by omega) (by omega) hu hd (by omega) X E;clear bw bs ba hks;go_enter Tryz.func226,Tryz.ntmps226;go_wp2_with (first|(go_at_call 86;refine HC.mono ?_;rintro e w2 ⟨rfl,o2,E2,S2⟩))
 go_end0
 exact⟨rfl,⟨o2,E2,S2⟩,gr_con s _ _ _ hu⟩
theorem ent_s1:Ent 224:=fun _ _=>by kernel_rfl
theorem ent_s2:Ent 226:=fun _ _=>by kernel_rfl
theorem search_c (nc N:Nat)(HP:EPart nc N)(e:Ex)(ao:Option Addr)(cap op v ar u:Nat)(w:World)(o:Nat->Nat)(rb:Nat)(lv:Value)(ls:List Int)(s:Em)(hoe:okE nc e)(hN:e.kids.size<N)(hls:ls.length=nc)(hnc:nc<=256)(hop:op<=255)(hv:v<=1)(hu:u+3*(e.kids.size+1)<=1000000000)(har:ar+1+(e.kids.size+1)<=1000000000)(S:SnO w o e.kids ao)(hks:s.ks.length=ls.length)
  (hm:s.mes+(256+300*(e.kids.size+1)+8)<=100000000) (hd:s.dp<=1000000001) (X:EmX w o lv ls) (h:EmW w o rb lv s) :
  Calls Tryz.prog 152 #[pt0 rb,exN e ao cap,.int .i64 (op:Nat),.int .i64 (v:Nat),spV ar u] w (PosQ w o rb lv s (srch ls (emE ls e) op (v:Int) ar u s) (256+300*(e.kids.size+1)+8)):=by
 have hmf:∀ (fn:Fn) (first cap:Array Value) (w:World),(Instr.makeFunc fn first cap).run Tryz.prog w=.ok (.func fn first cap) w:=fun _ _ _ _=>rfl;rw[exN_out];obtain⟨g,hg⟩:∃g,g=w.heap.size:=⟨_,rfl⟩
 obtain⟨w1,hw1⟩:∃w1,w1=((((w.alloc (.cells #[pt0 rb] 87)).alloc (.cells (nodeC e ao cap) 34)).alloc (.cells #[.int .i64 (op:Nat)] 3)).alloc (.cells #[.int .i64 (v:Nat)] 3)).alloc (.cells #[.int .i64 (ar:Nat),.int .i64 (u:Nat)] 91):=⟨_,rfl⟩
 obtain⟨z1,z2,z3,z4,z5,z6,z7⟩:=al5 w (.cells #[pt0 rb] 87) (.cells (nodeC e ao cap) 34) (.cells #[.int .i64 (op:Nat)] 3) (.cells #[.int .i64 (v:Nat)] 3) (.cells #[.int .i64 (ar:Nat),.int .i64 (u:Nat)] 91);rw[<-hw1,<-hg] at z1 z2 z3 z4 z5 z6 z7;obtain⟨w2,hw2⟩:∃w2,w2=w1.alloc (.cells #[.int .i64 (s.ws.length:Nat)] 3):=⟨_,rfl⟩
 have y6:w2.heap[g+5]?=some (.cells #[.int .i64 (s.ws.length:Nat)] 3):=by rw[hw2,<-z6];exact heap_alloc_new _ _
 have hold:∀ k,k<g+5->w2.heap[k]?=w1.heap[k]?:=fun k hk=>by rw[hw2];exact heap_alloc_old _ _ (by omega)
 have B2:Below g w w2:=by rw[hw2];exact z7.alloc (by omega) _
 have s0:∀ {I:Nat->Prop},Step I w o w2 (newLab w o 0):=fun {I}=>stepN o (by rw[<-hg];exact B2);have hnl:∀ j,newLab w o 0 (g+j)=0:=fun j=>newLab_new (by omega);have K2:CxS rb g (g+1) (g+2) (g+3) (g+4) (g+5) e ao cap ar u op v s.ws.length w2 (newLab w o 0) :=
  ⟨⟨(hold _ (by omega)).trans z1,hnl 0⟩,⟨(hold _ (by omega)).trans z2,hnl 1⟩,⟨(hold _ (by omega)).trans z3,hnl 2⟩,⟨(hold _ (by omega)).trans z4,hnl 3⟩,⟨(hold _ (by omega)).trans z5,hnl 4⟩,⟨y6,hnl 5⟩,S.stepO (s0 (I:=fun _=>False)) id⟩
 have E2:=h.step (s0 (I:=fun _=>False)) noF;have X2:=X.step (s0 (I:=fun _=>False)) id;have S0:=s0 (I:=I17);have HN:=next_c w1 o rb lv s (h.below (by rw[<-hg];exact z7));have cw1:=cell1e z1;generalize newLab w o 0=o1 at *;have hwl:s.ws.length<=100000000:=by unfold Em.mes at hm;omega
 have HF:=fork_c 24 224 226 #[pt0 g,pt0 (g+1),pt0 (g+4),pt0 (g+2),pt0 (g+5),pt0 (g+3)] #[pt0 g,pt0 (g+3),pt0 (g+4)] (fun x=>(((bdy ls (emE ls e) ar u x).lay op s.ws.length 0).lay 25 0 0).con (v:Nat) 2 u) (fun t=>t.con (1-(v:Int)) 2 u) (256+300*(e.kids.size+1)+4) 2 _ (CxS.keeps _ _ _ _ _ _ _ _ _ _ _ _ _ _ _) ent_s1 ent_s2 w2 o1 rb lv ls (cl_s1 nc N HP rb g (g+1) (g+2) (g+3) (g+4) (g+5) e ao cap ar u op v s.ws.length lv ls hoe hN hls hnc hop hv hwl hu har) ((cl_s2 rb g (g+3) (g+4) ar u v lv ls hv (by omega)).mono (fun _ _ h=>⟨h.bw,h.bs,h.ba⟩)) s (by omega) (by omega) hd hks X2 E2 K2;have HG:=Lib.hid hg;have HZ:=Lib.hid z6;have c2:=cell1e K2.bw.1;clear s0 hnl z1 z2 z3 z4 z5 z6 z7 y6 hold B2 h X S hg hks hls HP X2 E2 K2;go_enter Tryz.func152,Tryz.ntmps152;go_upto_region 1 with fail;rw[<-hw1,<-HG.out];clear hw1;go_upto_region 2 with (first|(go_at_call 223;refine HN.mono ?_;rintro z w1b ⟨rfl,hww⟩;subst hww))
 rw[<-hw2,HZ.out];clear hw2;go_wp2_with (first|(go_at_call 91;refine HF.mono ?_;rintro z w4 ⟨rfl,⟨o4,E4,S4⟩,g4⟩))
 go_end0
 exact⟨rfl,⟨o4,E4,S0.trans S4⟩,g4.le (by omega)⟩
end Go.Proofs.YtbjdkekhnajafaaGreatDoor
