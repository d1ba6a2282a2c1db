import Derived.Test.YtnfmpocfakblmaaGreatDoorEmC
set_option maxRecDepth 100000
set_option maxHeartbeats 8000000
namespace Go.Proofs.YtnfmpocfakblmaaGreatDoor
open Go.ChangeShapes Go.WideShapes Go.ChangeAt Go.RowKit
set_option linter.unusedVariables false
set_option linter.unusedSimpArgs false
abbrev nodeC (e:Ex)(ao:Option Addr)(cap:Nat):Array Value:=#[.int .i64 e.k,.int .i64 e.n,stv e.nm,.slice ao e.kids.len cap]
theorem clrs_drop (h:Nat):∀ (l:List Int) (k:Nat) (s:Em) (x:Int) (r:List Int),l=x::r->clrs h l k s=clrs h r (k+1) (if x=(h:Int) then s.lay 19 k 0 else s)
 | _,k,s,x,r,rfl=>rfl
theorem body_c (nc N:Nat)(HP:EPart nc N)(e:Ex)(ao:Option Addr)(cap ar u:Nat)(w:World)(o:Nat->Nat)(rb:Nat)(lv:Value)(ls:List Int)(s:Em)(hoe:okE nc e)(hN:e.kids.size<N)(hls:ls.length=nc)(hnc:nc<=256)(hu:u+3*(e.kids.size+1)<=1000000000)(har:ar+1+(e.kids.size+1)<=1000000000)(S:SnO w o e.kids ao)(hks:s.ks.length=ls.length)
  (hm:s.mes+(256+300*(e.kids.size+1))<=100000000) (hd:s.dp<=1000000001) (X:EmX w o lv ls) (h:EmW w o rb lv s) :
  Calls Tryz.prog 197 #[pt0 rb,exN e ao cap,spV ar u] w (PosQ w o rb lv s (bdy ls (emE ls e) ar u s) (256+300*(e.kids.size+1))):=by
 subst hls;have HKS:=Lib.hid hks;clear hks;obtain⟨g,hg⟩:∃g,g=w.heap.size:=⟨_,rfl⟩
 obtain⟨w1,hw1⟩:∃w1,w1=(w.alloc (.cells (nodeC e ao cap) 34)).alloc (.cells #[.int .i64 (ar:Nat),.int .i64 (u:Nat)] 88):=⟨_,rfl⟩
 obtain⟨z1,z2,z5,z6⟩:=al2 w (.cells (nodeC e ao cap) 34) (.cells #[.int .i64 (ar:Nat),.int .i64 (u:Nat)] 88);rw[<-hw1,<-hg] at z1 z2 z5 z6;obtain⟨A,hA⟩:∃A,A=ar+1:=⟨_,rfl⟩
 have hAI:(ar:Int)+1=(A:Int):=by omega
 obtain⟨w2,hw2⟩:∃w2,w2=w1.setCell ⟨g+1,0,none⟩ (.int .i64 (A:Nat)):=⟨_,rfl⟩
 have B2:Below g w w2:=by rw[hw2];exact z6.setCell (p:=⟨g+1,0,none⟩) (by show g<=g+1;omega) _
 have y1:w2.heap[g]?=some (.cells (nodeC e ao cap) 34):=by rw[hw2];exact(heap_setCell_other w1 ⟨g+1,0,none⟩ g _ (by show g≠g+1;omega)).trans z1
 have y2:w2.heap[g+1]?=some (.cells #[.int .i64 (A:Nat),.int .i64 (u:Nat)] 88):=by
  rw[hw2]
  have:=heap_setCell_same w1 (g+1) 0 _ _ (.int .i64 (A:Nat)) z2
  simpa using this
 have s0:∀ {I:Nat->Prop},Step I w o w2 (newLab w o 0):=fun {I}=>stepN o (by rw[<-hg];exact B2);have hnl:∀ j,newLab w o 0 (g+j)=0:=fun j=>newLab_new (by omega);have K1:Blk w2 (newLab w o 0) 0 g (.cells (nodeC e ao cap) 34)/\Blk w2 (newLab w o 0) 0 (g+1) (.cells #[.int .i64 (A:Nat),.int .i64 (u:Nat)] 88):=⟨⟨y1,hnl 0⟩,⟨y2,hnl 1⟩⟩
 have SN1:=S.stepO (s0 (I:=fun _=>False)) id;have E1:=h.step (s0 (I:=fun _=>False)) noF;have X1:=X.step (s0 (I:=fun _=>False)) id;have S0:=s0 (I:=I17);generalize newLab w o 0=o1 at *;have HG:=Lib.hid hg;obtain⟨⟨c0,c1⟩,cf⟩:=cells2e z2;have cf0:=cf 0;clear s0 hnl z1 z2 z5 z6 h X S hg y1 y2 B2 cf;rw[exN_out];have KK:Hid (∀ w' o',Step I17 w2 o1 w' o'->w'.cell? ⟨g,0,none⟩=some (.int .i64 e.k)/\w'.cell? ⟨g,1,none⟩=some (.int .i64 e.n)/\w'.cell? ⟨g,2,none⟩=some (stv e.nm)/\w'.cell? ⟨g,3,none⟩=some (.slice ao e.kids.len cap)/\w'.cell? ⟨g+1,0,none⟩=some (.int .i64 (A:Nat))/\w'.cell? ⟨g+1,1,none⟩=some (.int .i64 (u:Nat))):=fun w' o' S=>by
  obtain⟨⟨e0,e1,e2,e3⟩,-⟩:=cells4e (K1.1.step S not0).1;obtain⟨f0,f1⟩:=spot_box (K1.2.step S not0).1;exact⟨e0,e1,e2,e3,f0,f1⟩
 obtain⟨al,cl,rfl,hlv⟩:=X1.lvs;have LV:Hid (∀ w' o',Step I17 w2 o1 w' o'->∀ j x,ls[j]?=some x->∃b off,al=some ⟨b,off,none⟩/\w'.cell? ⟨b,off+j,none⟩=some (.int .i64 x)):=fun w' o' S j x hx=>by
  rcases hlv with h|⟨b,off,h1,h2,h3,h4⟩
  ·rw[h] at hx;simp at hx
  ·exact⟨b,off,h1,(World.cell?_of_block (a:=⟨b,off+j,none⟩) (S.block b h3 (by rw[h2];exact not0))).trans (h4 j x hx)⟩
 have RB:Hid (∀ w' o' s',EmW w' o' rb (.slice al ls.length cl) s'->w'.cell? ⟨rb,6,none⟩=some (.slice al ls.length cl)):=fun w' o' s' E=>by
  obtain⟨-,-,-,vw,vc,vn,vk,mc,mn,q0,-⟩:=E;exact(cells8 q0.1).1.2.2.2.2.2.2.1
 obtain⟨W,hW⟩:∃W,W=clrs A ls 0 s:=⟨_,rfl⟩
 have HW:Hid (W=clrs A (ls.drop 0) 0 s):=by show _=_;rw[hW];rfl
 have HB:Hid (bdy ls (emE ls e) ar u s=emE ls e A u W):=by show _=_;rw[hW,hA];rfl
 have r6:=RB.out _ _ _ E1;obtain⟨k0,k1,k2,k3,a0,a1⟩:=KK.out _ _ (Step.refl I17 w2 o1);have hls2:ls.length<=256:=by omega
 have HA:=Lib.hid hA;clear hW hlv hA;go_enter Tryz.func197,Tryz.ntmps197;go_upto_region 1 with fail;rw[<-hw1,<-HG.out];clear hw1;go_upto_region 2 with fail;rw[<-hw2];clear hw2;clear hAI;go_wp2_with fail;go_loopw [17] (fun vi wr=>∃(k:Nat) (s':Em) (o':Nat->Nat),vi=.int .i64 (k:Nat)/\k<=ls.length/\EmW wr o' rb (.slice al ls.length cl) s'/\Step I17 w2 o1 wr o'/\Grw s s' k/\Hid (W=clrs A (ls.drop k) k s')) (fun vi _=>ls.length-(intOf vi).toNat)
 case atStart=>exact⟨0,s,o1,by go_num,by omega,E1,Step.refl _ _ _,⟨by omega,Nat.le_refl _,rfl,id⟩,HW⟩
 case round =>
  clear HW E1 r6 k0 k1 k2 k3 a0 a1 c0 c1 cf0;obtain⟨k,s',o',rfl,hk,E2,S2,g2,HW⟩:=hrel;obtain⟨k0,k1,k2,k3,a0,a1⟩:=KK.out _ _ S2;by_cases hlt:k<ls.length
  ·have hkI:(k:Int)<(ls.length:Int):=by omega
   have hx:ls[k]?=some ls[k]:=List.getElem?_eq_getElem hlt;have hdr:ls.drop k=ls[k]::ls.drop (k+1):=List.drop_eq_getElem_cons hlt;have HW2:=HW.out;rw[clrs_drop A _ k s' _ _ hdr] at HW2;obtain⟨b,off,rfl,cx⟩:=LV.out _ _ S2 k _ hx;generalize ls[k]=lx at *;by_cases he:lx=(A:Int)
   ·rw[if_pos he] at HW2;have HW3:=Lib.hid HW2;have HL:=lay_c 19 k 0 wr o' rb _ ls s' (by omega) (by omega) (by omega) (by have:=g2.mes;omega) (X1.step S2 not0) E2;have g3:=g2.trans (gr_lay s' 19 k 0);subst he;clear HW2 HW hx hdr;go_wp2_with (first|(go_at_call 44;refine HL.mono ?_;rintro e w3 ⟨rfl,o3,E3,S3⟩));go_roundw
    case rel=>(try ((repeat apply Exists.intro);refine⟨?_,rfl⟩));exact⟨k+1,s'.lay 19 k 0,o3,by go_num,by omega,E3,S2.trans S3,g3,HW3.out⟩
    case measure=>simp[intOf];omega
   ·rw[if_neg he] at HW2;have HW3:=Lib.hid HW2;have g3:=g2.le (m:=k+1) (by omega);clear HW2 HW hx hdr;go_wp2;go_roundw
    case rel=>(try ((repeat apply Exists.intro);refine⟨?_,rfl⟩));exact⟨k+1,s',o',by go_num,by omega,E2,S2,g3,HW3.out⟩
    case measure=>simp[intOf];omega
  ·have hkI:¬(k:Int)<(ls.length:Int):=by omega
   obtain rfl:k=ls.length:=by omega
   have HW2:=HW.out;rw[List.drop_length] at HW2;have HW3:W=s':=HW2;subst HW3;have hA:=HA.out;have HC:=HP e ao cap A u wr o' rb _ ls W hN hoe rfl hnc (SN1.stepO S2 not0) (g2.ks.trans HKS.out) (by have:=g2.mes;omega) hu (by omega) (g2.dp hd) (X1.step S2 not0) E2;rw[exN_out] at HC;have HBO:=HB;clear HW HW2 hA HP hlt;go_wp2_with (first|(go_at_call 43;refine HC.mono ?_;rintro e w3 ⟨rfl,⟨o3,E3,S3⟩,g3⟩))
   go_end0
   exact⟨rfl,by rw[HBO.out];exact⟨⟨o3,E3,(S0.trans S2).trans S3⟩,(g2.trans g3).le (by omega)⟩⟩
structure CxS (rb gw gn gl gs ga gg:Nat)(e:Ex)(ao:Option Addr)(cap ar u op v ag:Nat)(w:World)(o:Nat->Nat):Prop where
 bw:Blk w o 0 gw (.cells #[pt0 rb] 84)
 bn:Blk w o 0 gn (.cells (nodeC e ao cap) 34)
 bl:Blk w o 0 gl (.cells #[.int .i64 (op:Nat)] 3)
 bs:Blk w o 0 gs (.cells #[.int .i64 (v:Nat)] 3)
 ba:Blk w o 0 ga (.cells #[.int .i64 (ar:Nat),.int .i64 (u:Nat)] 88)
 bg:Blk w o 0 gg (.cells #[.int .i64 (ag:Nat)] 3)
 sn:SnO w o e.kids ao
theorem CxS.step {I:Nat->Prop}{rb gw gn gl gs ga gg:Nat}{e:Ex}{ao:Option Addr}{cap ar u op v ag:Nat}{w w':World}{o o':Nat->Nat}(h:CxS rb gw gn gl gs ga gg e ao cap ar u op v ag w o)(x:Step I w o w' o')(hi:¬I 0):CxS rb gw gn gl gs ga gg e ao cap ar u op v ag w' o' :=
 ⟨h.bw.step x hi,h.bn.step x hi,h.bl.step x hi,h.bs.step x hi,h.ba.step x hi,h.bg.step x hi,h.sn.stepO x hi⟩
theorem CxS.keeps (rb gw gn gl gs ga gg:Nat)(e:Ex)(ao:Option Addr)(cap ar u op v ag:Nat):Keeps (CxS rb gw gn gl gs ga gg e ao cap ar u op v ag):=fun h x=>h.step x not0
theorem cl_s1 (nc N:Nat)(HP:EPart nc N)(rb gw gn gl gs ga gg:Nat)(e:Ex)(ao:Option Addr)(cap ar u op v ag:Nat)(lv:Value)(ls:List Int)(hoe:okE nc e)(hN:e.kids.size<N)(hls:ls.length=nc)(hnc:nc<=256)(hop:op<=255)(hv:v<=1)(hag:ag<=100000000)(hu:u+3*(e.kids.size+1)<=1000000000)(har:ar+1+(e.kids.size+1)<=1000000000) :
  Does rb lv ls (CxS rb gw gn gl gs ga gg e ao cap ar u op v ag) 196 #[pt0 gw,pt0 gn,pt0 ga,pt0 gl,pt0 gg,pt0 gs] (fun x=>(((bdy ls (emE ls e) ar u x).lay op ag 0).lay 25 0 0).con (v:Nat) 2 u) (256+300*(e.kids.size+1)+4):=by
 intro w o s X E K hm hd hks;have HC:=body_c nc N HP e ao cap ar u w o rb lv ls s hoe hN hls hnc hu har K.sn hks (by omega) hd X E;rw[exN_out] at HC;have KK:Hid (∀ w' o',Step I17 w o w' o'->w'.cell? ⟨gw,0,none⟩=some (pt0 rb)/\(w'.cell? ⟨gn,0,none⟩=some (.int .i64 e.k)/\w'.cell? ⟨gn,1,none⟩=some (.int .i64 e.n)/\w'.cell? ⟨gn,2,none⟩=some (stv e.nm)/\w'.cell? ⟨gn,3,none⟩=some (.slice ao e.kids.len cap))/\w'.cell? ⟨gl,0,none⟩=some (.int .i64 (op:Nat))/\w'.cell? ⟨gs,0,none⟩=some (.int .i64 (v:Nat))/\w'.cell? ⟨gg,0,none⟩=some (.int .i64 (ag:Nat))/\w'.cell? ⟨ga,0,none⟩=some (.int .i64 (ar:Nat))/\w'.cell? ⟨ga,1,none⟩=some (.int .i64 (u:Nat))):=fun w' o' S=>by
  have K2:=K.step S not0;exact⟨cell1e K2.bw.1,(cells4e K2.bn.1).1,cell1e K2.bl.1,cell1e K2.bs.1,cell1e K2.bg.1,(spot_box K2.ba.1).1,(spot_box K2.ba.1).2⟩
 obtain⟨c0,⟨n0,n1,n2,n3⟩,c2,c3,c4,a0,a1⟩:=KK.out _ _ (Step.refl I17 w o);have HKS:=Lib.hid hks;clear hks hls K HP;go_enter Tryz.func196,Tryz.ntmps196;go_upto_region 1 with (first|(go_at_call 197;refine HC.mono ?_;rintro z w2 ⟨rfl,⟨o2,E2,S2⟩,g2⟩))
 obtain⟨s2,hs2⟩:∃s2,s2=bdy ls (emE ls e) ar u s:=⟨_,rfl⟩
 rw[<-hs2] at E2 g2;have HS2:=Lib.hid hs2;clear hs2 HC c0 n0 n1 n2 n3 c2 c3 c4 a0 a1;obtain⟨c0,⟨n0,n1,n2,n3⟩,c2,c3,c4,a0,a1⟩:=KK.out _ _ S2;have HL:=lay_c op ag 0 w2 o2 rb lv ls s2 hop (by omega) (by omega) (by have:=g2.mes;omega) (X.step S2 not0) E2;go_upto_region 2 with (first|(go_at_call 44;refine HL.mono ?_;rintro z w3 ⟨rfl,o3,E3,S3⟩))
 have S23:=S2.trans S3;have g3:=g2.trans (gr_lay s2 op ag 0);clear HL c0 n0 n1 n2 n3 c2 c3 c4 a0 a1;obtain⟨c0,⟨n0,n1,n2,n3⟩,c2,c3,c4,a0,a1⟩:=KK.out _ _ S23;have HL:=lay_c 25 0 0 w3 o3 rb lv ls (s2.lay op ag 0) (by omega) (by omega) (by omega) (by have:=g3.mes;omega) (X.step S23 not0) E3;go_upto_region 3 with (first|(go_at_call 44;refine HL.mono ?_;rintro z w4 ⟨rfl,o4,E4,S4⟩))
 have S24:=S23.trans S4;have g4:=g3.trans (gr_lay (s2.lay op ag 0) 25 0 0);clear HL c0 n0 n1 n2 n3 c2 c3 c4 a0 a1;obtain⟨c0,⟨n0,n1,n2,n3⟩,c2,c3,c4,a0,a1⟩:=KK.out _ _ S24;have HL:=constant_c (v:Nat) 2 ar u w4 o4 rb lv ls ((s2.lay op ag 0).lay 25 0 0) (by omega) (by omega) (by omega) (g4.dp hd) (by have:=g4.mes;omega) (X.step S24 not0) E4;go_wp2_with (first|(go_at_call 77;refine HL.mono ?_;rintro z w5 ⟨rfl,o5,E5,S5⟩))
 go_end0
 exact⟨rfl,by rw[<-HS2.out];exact⟨⟨o5,E5,S24.trans S5⟩,(g4.trans (gr_con _ _ _ _ (by omega))).le (by omega)⟩⟩
theorem cl_s2 (rb gw gs ga ar u v:Nat)(lv:Value)(ls:List Int)(hv:v<=1)(hu:u<=1000000000) :
  Does rb lv ls (fun w o=>Blk w o 0 gw (.cells #[pt0 rb] 84)/\Blk w o 0 gs (.cells #[.int .i64 (v:Nat)] 3)/\Blk w o 0 ga (.cells #[.int .i64 (ar:Nat),.int .i64 (u:Nat)] 88)) 198 #[pt0 gw,pt0 gs,pt0 ga] (fun t=>t.con (1-(v:Int)) 2 u) 2:=by
 intro w o s X E ⟨bw,bs,ba⟩ hm hd hks;have cw:=cell1e bw.1;have cs:=cell1e bs.1;obtain⟨a0,a1⟩:=spot_box ba.1;have HC:=constant_c (1-(v:Int)) 2 ar u w o rb lv ls s (by omega) (by omega) hu hd (by omega) X E;clear bw bs ba hks;go_enter Tryz.func198,Tryz.ntmps198;go_wp2_with (first|(go_at_call 77;refine HC.mono ?_;rintro e w2 ⟨rfl,o2,E2,S2⟩))
 go_end0
 exact⟨rfl,⟨o2,E2,S2⟩,gr_con s _ _ _ hu⟩
theorem ent_s1:Ent 196:=fun _ _=>by kernel_rfl
theorem ent_s2:Ent 198:=fun _ _=>by kernel_rfl
theorem search_c (nc N:Nat)(HP:EPart nc N)(e:Ex)(ao:Option Addr)(cap op v ar u:Nat)(w:World)(o:Nat->Nat)(rb:Nat)(lv:Value)(ls:List Int)(s:Em)(hoe:okE nc e)(hN:e.kids.size<N)(hls:ls.length=nc)(hnc:nc<=256)(hop:op<=255)(hv:v<=1)(hu:u+3*(e.kids.size+1)<=1000000000)(har:ar+1+(e.kids.size+1)<=1000000000)(S:SnO w o e.kids ao)(hks:s.ks.length=ls.length)
  (hm:s.mes+(256+300*(e.kids.size+1)+8)<=100000000) (hd:s.dp<=1000000001) (X:EmX w o lv ls) (h:EmW w o rb lv s) :
  Calls Tryz.prog 136 #[pt0 rb,exN e ao cap,.int .i64 (op:Nat),.int .i64 (v:Nat),spV ar u] w (PosQ w o rb lv s (srch ls (emE ls e) op (v:Int) ar u s) (256+300*(e.kids.size+1)+8)):=by
 have hmf:∀ (fn:Fn) (first cap:Array Value) (w:World),(Instr.makeFunc fn first cap).run Tryz.prog w=.ok (.func fn first cap) w:=fun _ _ _ _=>rfl;rw[exN_out];obtain⟨g,hg⟩:∃g,g=w.heap.size:=⟨_,rfl⟩
 obtain⟨w1,hw1⟩:∃w1,w1=((((w.alloc (.cells #[pt0 rb] 84)).alloc (.cells (nodeC e ao cap) 34)).alloc (.cells #[.int .i64 (op:Nat)] 3)).alloc (.cells #[.int .i64 (v:Nat)] 3)).alloc (.cells #[.int .i64 (ar:Nat),.int .i64 (u:Nat)] 88):=⟨_,rfl⟩
 obtain⟨z1,z2,z3,z4,z5,z6,z7⟩:=al5 w (.cells #[pt0 rb] 84) (.cells (nodeC e ao cap) 34) (.cells #[.int .i64 (op:Nat)] 3) (.cells #[.int .i64 (v:Nat)] 3) (.cells #[.int .i64 (ar:Nat),.int .i64 (u:Nat)] 88);rw[<-hw1,<-hg] at z1 z2 z3 z4 z5 z6 z7;obtain⟨w2,hw2⟩:∃w2,w2=w1.alloc (.cells #[.int .i64 (s.ws.length:Nat)] 3):=⟨_,rfl⟩
 have y6:w2.heap[g+5]?=some (.cells #[.int .i64 (s.ws.length:Nat)] 3):=by rw[hw2,<-z6];exact heap_alloc_new _ _
 have hold:∀ k,k<g+5->w2.heap[k]?=w1.heap[k]?:=fun k hk=>by rw[hw2];exact heap_alloc_old _ _ (by omega)
 have B2:Below g w w2:=by rw[hw2];exact z7.alloc (by omega) _
 have s0:∀ {I:Nat->Prop},Step I w o w2 (newLab w o 0):=fun {I}=>stepN o (by rw[<-hg];exact B2);have hnl:∀ j,newLab w o 0 (g+j)=0:=fun j=>newLab_new (by omega);have K2:CxS rb g (g+1) (g+2) (g+3) (g+4) (g+5) e ao cap ar u op v s.ws.length w2 (newLab w o 0) :=
  ⟨⟨(hold _ (by omega)).trans z1,hnl 0⟩,⟨(hold _ (by omega)).trans z2,hnl 1⟩,⟨(hold _ (by omega)).trans z3,hnl 2⟩,⟨(hold _ (by omega)).trans z4,hnl 3⟩,⟨(hold _ (by omega)).trans z5,hnl 4⟩,⟨y6,hnl 5⟩,S.stepO (s0 (I:=fun _=>False)) id⟩
 have E2:=h.step (s0 (I:=fun _=>False)) noF;have X2:=X.step (s0 (I:=fun _=>False)) id;have S0:=s0 (I:=I17);have HN:=next_c w1 o rb lv s (h.below (by rw[<-hg];exact z7));have cw1:=cell1e z1;generalize newLab w o 0=o1 at *;have hwl:s.ws.length<=100000000:=by unfold Em.mes at hm;omega
 have HF:=fork_c 24 196 198 #[pt0 g,pt0 (g+1),pt0 (g+4),pt0 (g+2),pt0 (g+5),pt0 (g+3)] #[pt0 g,pt0 (g+3),pt0 (g+4)] (fun x=>(((bdy ls (emE ls e) ar u x).lay op s.ws.length 0).lay 25 0 0).con (v:Nat) 2 u) (fun t=>t.con (1-(v:Int)) 2 u) (256+300*(e.kids.size+1)+4) 2 _ (CxS.keeps _ _ _ _ _ _ _ _ _ _ _ _ _ _ _) ent_s1 ent_s2 w2 o1 rb lv ls (cl_s1 nc N HP rb g (g+1) (g+2) (g+3) (g+4) (g+5) e ao cap ar u op v s.ws.length lv ls hoe hN hls hnc hop hv hwl hu har) ((cl_s2 rb g (g+3) (g+4) ar u v lv ls hv (by omega)).mono (fun _ _ h=>⟨h.bw,h.bs,h.ba⟩)) s (by omega) (by omega) hd hks X2 E2 K2;have HG:=Lib.hid hg;have HZ:=Lib.hid z6;have c2:=cell1e K2.bw.1;clear s0 hnl z1 z2 z3 z4 z5 z6 z7 y6 hold B2 h X S hg hks hls HP X2 E2 K2;go_enter Tryz.func136,Tryz.ntmps136;go_upto_region 1 with fail;rw[<-hw1,<-HG.out];clear hw1;go_upto_region 2 with (first|(go_at_call 195;refine HN.mono ?_;rintro z w1b ⟨rfl,hww⟩;subst hww))
 rw[<-hw2,HZ.out];clear hw2;go_wp2_with (first|(go_at_call 82;refine HF.mono ?_;rintro z w4 ⟨rfl,⟨o4,E4,S4⟩,g4⟩))
 go_end0
 exact⟨rfl,⟨o4,E4,S0.trans S4⟩,g4.le (by omega)⟩
def DoesA (rb:Nat)(lv:Value)(ls:List Int)(K:World->(Nat->Nat)->Prop)(F:FuncId)(c:Array Value)(t:Nat->Em->Em)(n:Nat):Prop :=
 ∀ ag:Nat,ag<=100000000->∀ w o s,EmX w o lv ls->EmW w o rb lv s->K w o->s.mes+n<=100000000->s.dp<=1000000001->s.ks.length=ls.length->Calls Tryz.prog F (#[.int .i64 (ag:Nat)]++c) w (PosQ w o rb lv s (t ag s) n)
theorem gather_c (nc N:Nat)(HP:EPart nc N)(F:FuncId)(c:Array Value)(t:Nat->Em->Em)(n:Nat)(K:World->(Nat->Nat)->Prop)(hK:Keeps K)(HE:Ent F)(e:Ex)(ao:Option Addr)(cap ar u:Nat)(w:World)(o:Nat->Nat)(rb:Nat)(lv:Value)(ls:List Int)(H:DoesA rb lv ls K F c t n)(s:Em)(hoe:okE nc e)(hN:e.kids.size<N)(hls:ls.length=nc)(hnc:nc<=256)(hu:u+3*(e.kids.size+1)<=1000000000)(har:ar+1+(e.kids.size+1)<=1000000000)(S:SnO w o e.kids ao)(hks:s.ks.length=ls.length)
  (hm:s.mes+(256+300*(e.kids.size+1)+n+2)<=100000000) (hd:s.dp<=1000000001) (X:EmX w o lv ls) (h:EmW w o rb lv s) (k:K w o) :
  Calls Tryz.prog 137 #[pt0 rb,exN e ao cap,spV ar u,.func (.func F) #[] c] w (PosQ w o rb lv s (gath ls (emE ls e) t ar u s) (256+300*(e.kids.size+1)+n+2)):=by
 rw[exN_out];obtain⟨g,hg⟩:∃g,g=w.heap.size:=⟨_,rfl⟩
 obtain⟨w1,hw1⟩:∃w1,w1=(w.alloc (.cells (nodeC e ao cap) 34)).alloc (.cells #[.int .i64 (ar:Nat),.int .i64 (u:Nat)] 88):=⟨_,rfl⟩
 obtain⟨z1,z2,z5,z6⟩:=al2 w (.cells (nodeC e ao cap) 34) (.cells #[.int .i64 (ar:Nat),.int .i64 (u:Nat)] 88);rw[<-hw1,<-hg] at z1 z2 z5 z6;have s0:∀ {I:Nat->Prop},Step I w o w1 (newLab w o 0):=fun {I}=>stepN o (by rw[<-hg];exact z6);have hnl:∀ j,newLab w o 0 (g+j)=0:=fun j=>newLab_new (by omega);have K1:Blk w1 (newLab w o 0) 0 g (.cells (nodeC e ao cap) 34)/\Blk w1 (newLab w o 0) 0 (g+1) (.cells #[.int .i64 (ar:Nat),.int .i64 (u:Nat)] 88):=⟨⟨z1,hnl 0⟩,⟨z2,hnl 1⟩⟩
 have SN1:=S.stepO (s0 (I:=fun _=>False)) id;have E1:=h.step (s0 (I:=fun _=>False)) noF;have X1:=X.step (s0 (I:=fun _=>False)) id;have S0:=s0 (I:=I17);have k1:=hK k S0;generalize newLab w o 0=o1 at *;have KK:Hid (∀ w' o',Step I17 w1 o1 w' o'->(w'.cell? ⟨g,0,none⟩=some (.int .i64 e.k)/\w'.cell? ⟨g,1,none⟩=some (.int .i64 e.n)/\w'.cell? ⟨g,2,none⟩=some (stv e.nm)/\w'.cell? ⟨g,3,none⟩=some (.slice ao e.kids.len cap))/\w'.cell? ⟨g+1,0,none⟩=some (.int .i64 (ar:Nat))/\w'.cell? ⟨g+1,1,none⟩=some (.int .i64 (u:Nat))):=fun w' o' S=>⟨(cells4e (K1.1.step S not0).1).1,(spot_box (K1.2.step S not0).1).1,(spot_box (K1.2.step S not0).1).2⟩;have HN:=next_c w1 o1 rb lv s E1;have HL:=lay_c 24 0 0 w1 o1 rb lv ls s (by omega) (by omega) (by omega) (by omega) X1 E1;have HKS:=Lib.hid hks;have HG:=Lib.hid hg;have hwl:s.ws.length<=100000000:=by unfold Em.mes at hm;omega
 have g1:=gr_lay s 24 0 0;have HT:Hid (gath ls (emE ls e) t ar u s=((t s.ws.length (bdy ls (emE ls e) ar u (s.lay 24 0 0))).lay 13 s.ws.length 0).land s.ws.length):=rfl;have HB:∀ w2 o2,EmX w2 o2 lv ls->EmW w2 o2 rb lv (s.lay 24 0 0)->SnO w2 o2 e.kids ao->_:=fun w2 o2 X2 E2 SN2=>body_c nc N HP e ao cap ar u w2 o2 rb lv ls (s.lay 24 0 0) hoe hN hls hnc hu har SN2 (g1.ks.trans hks) (by have:=g1.mes;omega) (g1.dp hd) X2 E2;clear s0 hnl z1 z2 z5 z6 h X S hg hks hls HP K1 k E1
 go_enter_defers Tryz.func137,Tryz.ntmps137
 go_upto_region 1 with fail;rw[<-hw1,<-HG.out];clear hw1;go_upto_region 2 with (first|(go_at_call 195;refine HN.mono ?_;rintro z w1b ⟨rfl,hww⟩;subst hww))
 go_upto_region 3 with (first|(go_at_call 44;refine HL.mono ?_;rintro z w2 ⟨rfl,o2,E2,S2⟩))
 clear HN HL;have HC:=HB w2 o2 (X1.step S2 not0) E2 (SN1.stepO S2 not0);rw[exN_out] at HC;obtain⟨⟨n0,n1,n2,n3⟩,a0,a1⟩:=KK.out _ _ S2;go_upto_region 4 with (first|(go_at_call 197;refine HC.mono ?_;rintro z w3 ⟨rfl,⟨o3,E3,S3⟩,g3⟩))
 obtain⟨s3,hs3⟩:∃s3,s3=bdy ls (emE ls e) ar u (s.lay 24 0 0):=⟨_,rfl⟩
 rw[<-hs3] at E3 g3 HT;clear hs3 HB HC n0 n1 n2 n3 a0 a1;have S13:=S2.trans S3;have g13:=g1.trans g3;have HF:=H s.ws.length hwl w3 o3 s3 (X1.step S13 not0) E3 (hK k1 S13) (by have:=g13.mes;omega) (g13.dp hd) (g13.ks.trans HKS.out);go_wp2_with fail;refine HF.mono ?_;rintro z w4 ⟨rfl,⟨o4,E4,S4⟩,g4⟩;obtain⟨s4,hs4⟩:∃s4,s4=t s.ws.length s3:=⟨_,rfl⟩
 rw[<-hs4] at E4 g4 HT;clear hs4 HF HE;have S14:=S13.trans S4;have g14:=g13.trans g4;have HL:=lay_c 13 s.ws.length 0 w4 o4 rb lv ls s4 (by omega) (by omega) (by omega) (by have:=g14.mes;omega) (X1.step S14 not0) E4;go_wp2_with (first|(go_at_call 44;refine HL.mono ?_;rintro z w5 ⟨rfl,o5,E5,S5⟩));have S15:=S14.trans S5;have g15:=g14.trans (gr_lay s4 13 s.ws.length 0);have hlt:s.ws.length<(s4.lay 13 s.ws.length 0).ws.length:=by
  have h1:=g4.ws;have h2:=g3.ws;have h3:(s.lay 24 0 0).ws.length=s.ws.length+1:=by simp[Em.lay]
  have h4:(s4.lay 13 s.ws.length 0).ws.length=s4.ws.length+1:=by simp[Em.lay]
  omega
 have HD:=land_d s.ws.length .returning w5 o5 rb lv ls (s4.lay 13 s.ws.length 0) hlt (by have:=g15.mes;omega) (X1.step S15 not0) E5;refine leaves_cons (f:=134) (args:=#[.pointer (some ⟨rb,0,none⟩),.int .i64 (s.ws.length:Nat)]) (by simp) (by simp[go_sem]) ?_;refine HD.mono ?_;rintro z u' w6 ⟨rfl,rfl,o6,E6,S6⟩;exact⟨_,results_none rfl _ _ _,rfl,by rw[HT.out];exact⟨⟨o6,E6,(S0.trans S15).trans S6⟩,(g15.trans (gr_land _ _)).le (by omega)⟩⟩
theorem cl_q1 (rb gw ga ar u:Nat)(lv:Value)(ls:List Int)(hu:u+1<=1000000000) :
  DoesA rb lv ls (fun w o=>Blk w o 0 gw (.cells #[pt0 rb] 84)/\Blk w o 0 ga (.cells #[.int .i64 (ar:Nat),.int .i64 (u:Nat)] 88)) 138 #[pt0 gw,pt0 ga] (fun g x=>((x.lay 14 g 0).con 1 1 (u+1)).lay 6 0 0) 4:=by
 intro ag hag w o s X E ⟨bw,ba⟩ hm hd hks;have HL:=lay_c 14 ag 0 w o rb lv ls s (by omega) (by omega) (by omega) (by omega) X E;have KK:Hid (∀ w' o',Step I17 w o w' o'->w'.cell? ⟨gw,0,none⟩=some (pt0 rb)/\w'.cell? ⟨ga,0,none⟩=some (.int .i64 (ar:Nat))/\w'.cell? ⟨ga,1,none⟩=some (.int .i64 (u:Nat))):=fun w' o' S=>⟨cell1e (bw.step S not0).1,(spot_box (ba.step S not0).1).1,(spot_box (ba.step S not0).1).2⟩;obtain⟨c0,a0,a1⟩:=KK.out _ _ (Step.refl I17 w o);have g1:=gr_lay s 14 ag 0;have HO:=fun w'=>over_e ar u 1 w' (by omega) (by omega);clear bw ba hks;go_enter Tryz.func138,Tryz.ntmps138;go_upto_region 1 with (first|(go_at_call 44;refine HL.mono ?_;rintro z w2 ⟨rfl,o2,E2,S2⟩))
 clear HL c0 a0 a1;have d2:Step I17 w2 o2 w2.drew o2:=(Step.refl _ w2 o2).drew;have S2d:=S2.trans d2;obtain⟨c0,a0,a1⟩:=KK.out _ _ S2;obtain⟨e0,e1,e2⟩:=KK.out _ _ S2d;have XD:=X.step S2d not0;have ED:=E2.step ((Step.refl (fun _=>False) w2 o2).drew) noF;have HC:∀ w3,Below w2.drew.heap.size w2.drew w3->Calls Tryz.prog 77 #[.pointer (some ⟨rb,0,none⟩),.int .i64 1,.int .i64 1,spV ar (u+1)] w3 (PosE w3 o2 rb lv ((s.lay 14 ag 0).con 1 1 (u+1)) (.tuple #[])):=fun w3 B=>constant_c 1 1 ar (u+1) w3 o2 rb lv ls (s.lay 14 ag 0) (by omega) (by omega) (by omega) (g1.dp hd) (by have:=g1.mes;omega) (XD.below B) (ED.below B);go_region_held3 (fun wx=>wx.cell? ⟨gw,0,none⟩=some (pt0 rb)/\wx.cell? ⟨ga,0,none⟩=some (.int .i64 (ar:Nat))/\wx.cell? ⟨ga,1,none⟩=some (.int .i64 (u:Nat))) (go_keep) (first|(go_at_call 87;refine(HO _).mono ?_;rintro z w3 ⟨rfl,B3⟩;have S3:=S2d.trans (Step.ofBelow (I:=I17) o2 B3);obtain⟨e0,e1,e2⟩:=KK.out _ _ S3;have HC3:=HC w3 B3)|(go_at_call 77;refine HC3.mono ?_;rintro z w4 ⟨rfl,o4,E4,S4⟩;obtain⟨e0,e1,e2⟩:=KK.out _ _ (S3.trans S4)))
 all_goals
  have S34:=S3.trans S4;have g4:=g1.trans (gr_con (s.lay 14 ag 0) 1 1 (u+1) hu);have HL:=lay_c 6 0 0 w4 o4 rb lv ls ((s.lay 14 ag 0).con 1 1 (u+1)) (by omega) (by omega) (by omega) (by have:=g4.mes;omega) (X.step S34 not0) E4;clear HC HO HC3;go_wp2_with (first|(go_at_call 44;refine HL.mono ?_;rintro z w5 ⟨rfl,o5,E5,S5⟩))
  go_end0
  exact⟨rfl,⟨o5,E5,S34.trans S5⟩,(g4.trans (gr_lay _ _ _ _)).le (by omega)⟩
theorem cl_q2 (rb gw:Nat)(lv:Value)(ls:List Int) :
  DoesA rb lv ls (fun w o=>Blk w o 0 gw (.cells #[pt0 rb] 84)) 139 #[pt0 gw] (fun _ x=>x.lay 6 0 0) 4:=by
 intro ag hag w o s X E bw hm hd hks;have HL:=lay_c 6 0 0 w o rb lv ls s (by omega) (by omega) (by omega) (by omega) X E;have c0:=cell1e bw.1;clear bw hks;go_enter Tryz.func139,Tryz.ntmps139;go_wp2_with (first|(go_at_call 44;refine HL.mono ?_;rintro z w5 ⟨rfl,o5,E5,S5⟩))
 go_end0
 exact⟨rfl,⟨o5,E5,S5⟩,(gr_lay _ _ _ _).le (by omega)⟩
theorem cl_q3 (rb gw gn:Nat)(e:Ex)(ao:Option Addr)(cap:Nat)(lv:Value)(ls:List Int)(hn:e.n=5\/e.n=6) :
  DoesA rb lv ls (fun w o=>Blk w o 0 gw (.cells #[pt0 rb] 84)/\Blk w o 0 gn (.cells (nodeC e ao cap) 34)) 140 #[pt0 gw,pt0 gn] (fun _ x=>x.lay 26 (e.n-5).toNat 0) 4:=by
 intro ag hag w o s X E ⟨bw,bn⟩ hm hd hks;obtain⟨j,hj⟩:∃j:Nat,(j:Int)=e.n-5:=⟨(e.n-5).toNat,by omega⟩
 have hj2:(e.n-5).toNat=j:=by omega
 have hj3:j<=1:=by omega
 rw[hj2];have HL:=lay_c 26 j 0 w o rb lv ls s (by omega) (by omega) (by omega) (by omega) X E;have c0:=cell1e bw.1;obtain⟨⟨n0,n1,n2,n3⟩,-⟩:=cells4e bn.1;have hb1:-9223372036854775808<=e.n-5/\e.n-5<=9223372036854775807:=by omega
 have hj4:e.n-5=(j:Int):=hj.symm;generalize e.n=en at *;clear bw bn hks hj hj2;go_enter Tryz.func140,Tryz.ntmps140;go_wp2_with (first|(go_at_call 44;refine HL.mono ?_;rintro z w5 ⟨rfl,o5,E5,S5⟩))
 go_end0
 exact⟨rfl,⟨o5,E5,S5⟩,(gr_lay _ _ _ _).le (by omega)⟩
theorem ent_q1:Ent 138:=fun _ _=>by kernel_rfl
theorem ent_q2:Ent 139:=fun _ _=>by kernel_rfl
theorem ent_q3:Ent 140:=fun _ _=>by kernel_rfl
end Go.Proofs.YtnfmpocfakblmaaGreatDoor
