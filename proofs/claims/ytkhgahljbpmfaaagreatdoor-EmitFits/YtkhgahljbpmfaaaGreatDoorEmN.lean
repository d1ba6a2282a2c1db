import Derived.Test.YtkhgahljbpmfaaaGreatDoorEmC
set_option maxRecDepth 100000
set_option maxHeartbeats 8000000
namespace Go.Proofs.YtkhgahljbpmfaaaGreatDoor
open Go.ChangeShapes Go.WideShapes Go.ChangeAt Go.RowKit
set_option linter.unusedVariables false
set_option linter.unusedSimpArgs false
abbrev nodeC (e:Ex)(ao:Option Addr)(cap:Nat):Array Value:=#[.int .i64 e.k,.int .i64 e.n,stv e.nm,.slice ao e.kids.len cap]
theorem clrs_drop (h:Nat):∀ (l:List Int) (k:Nat) (s:Em) (x:Int) (r:List Int),l=x::r->clrs h l k s=clrs h r (k+1) (if x=(h:Int) then s.lay 19 k 0 else s)
 | _,k,s,x,r,rfl=>rfl
theorem body_c (nc N:Nat)(HP:EPart nc N)(e:Ex)(ao:Option Addr)(cap ar u:Nat)(w:World)(o:Nat->Nat)(rb:Nat)(lv:Value)(ls:List Int)(s:Em)(hoe:okE nc e)(hN:e.kids.size<N)(hls:ls.length=nc)(hnc:nc<=256)(hu:u+3*(e.kids.size+1)<=1000000000)(har:ar+1+(e.kids.size+1)<=1000000000)(S:SnO w o e.kids ao)(hks:s.ks.length=ls.length)
  (hm:s.mes+(256+300*(e.kids.size+1))<=100000000) (hd:s.dp<=1000000001) (X:EmX w o lv ls) (h:EmW w o rb lv s) :
  Calls Tryz.prog 191 #[pt0 rb,exN e ao cap,spV ar u] w (PosQ w o rb lv s (bdy ls (emE ls e) ar u s) (256+300*(e.kids.size+1))):=by
 subst hls;have HKS:=Lib.hid hks;clear hks;obtain⟨g,hg⟩:∃g,g=w.heap.size:=⟨_,rfl⟩
 obtain⟨w1,hw1⟩:∃w1,w1=(w.alloc (.cells (nodeC e ao cap) 34)).alloc (.cells #[.int .i64 (ar:Nat),.int .i64 (u:Nat)] 86):=⟨_,rfl⟩
 obtain⟨z1,z2,z5,z6⟩:=al2 w (.cells (nodeC e ao cap) 34) (.cells #[.int .i64 (ar:Nat),.int .i64 (u:Nat)] 86);rw[<-hw1,<-hg] at z1 z2 z5 z6;obtain⟨A,hA⟩:∃A,A=ar+1:=⟨_,rfl⟩
 have hAI:(ar:Int)+1=(A:Int):=by omega
 obtain⟨w2,hw2⟩:∃w2,w2=w1.setCell ⟨g+1,0,none⟩ (.int .i64 (A:Nat)):=⟨_,rfl⟩
 have B2:Below g w w2:=by rw[hw2];exact z6.setCell (p:=⟨g+1,0,none⟩) (by show g<=g+1;omega) _
 have y1:w2.heap[g]?=some (.cells (nodeC e ao cap) 34):=by rw[hw2];exact(heap_setCell_other w1 ⟨g+1,0,none⟩ g _ (by show g≠g+1;omega)).trans z1
 have y2:w2.heap[g+1]?=some (.cells #[.int .i64 (A:Nat),.int .i64 (u:Nat)] 86):=by
  rw[hw2]
  have:=heap_setCell_same w1 (g+1) 0 _ _ (.int .i64 (A:Nat)) z2
  simpa using this
 have s0:∀ {I:Nat->Prop},Step I w o w2 (newLab w o 0):=fun {I}=>stepN o (by rw[<-hg];exact B2);have hnl:∀ j,newLab w o 0 (g+j)=0:=fun j=>newLab_new (by omega);have K1:Blk w2 (newLab w o 0) 0 g (.cells (nodeC e ao cap) 34)/\Blk w2 (newLab w o 0) 0 (g+1) (.cells #[.int .i64 (A:Nat),.int .i64 (u:Nat)] 86):=⟨⟨y1,hnl 0⟩,⟨y2,hnl 1⟩⟩
 have SN1:=S.stepO (s0 (I:=fun _=>False)) id;have E1:=h.step (s0 (I:=fun _=>False)) noF;have X1:=X.step (s0 (I:=fun _=>False)) id;have S0:=s0 (I:=I17);generalize newLab w o 0=o1 at *;have HG:=Lib.hid hg;obtain⟨⟨c0,c1⟩,cf⟩:=cells2e z2;have cf0:=cf 0;clear s0 hnl z1 z2 z5 z6 h X S hg y1 y2 B2 cf;rw[exN_out];have KK:Hid (∀ w' o',Step I17 w2 o1 w' o'->w'.cell? ⟨g,0,none⟩=some (.int .i64 e.k)/\w'.cell? ⟨g,1,none⟩=some (.int .i64 e.n)/\w'.cell? ⟨g,2,none⟩=some (stv e.nm)/\w'.cell? ⟨g,3,none⟩=some (.slice ao e.kids.len cap)/\w'.cell? ⟨g+1,0,none⟩=some (.int .i64 (A:Nat))/\w'.cell? ⟨g+1,1,none⟩=some (.int .i64 (u:Nat))):=fun w' o' S=>by
  obtain⟨⟨e0,e1,e2,e3⟩,-⟩:=cells4e (K1.1.step S not0).1;obtain⟨f0,f1⟩:=spot_box (K1.2.step S not0).1;exact⟨e0,e1,e2,e3,f0,f1⟩
 obtain⟨al,cl,rfl,hlv⟩:=X1.lvs;have LV:Hid (∀ w' o',Step I17 w2 o1 w' o'->∀ j x,ls[j]?=some x->∃b off,al=some ⟨b,off,none⟩/\w'.cell? ⟨b,off+j,none⟩=some (.int .i64 x)):=fun w' o' S j x hx=>by
  rcases hlv with h|⟨b,off,h1,h2,h3,h4⟩
  ·rw[h] at hx;simp at hx
  ·exact⟨b,off,h1,(World.cell?_of_block (a:=⟨b,off+j,none⟩) (S.block b h3 (by rw[h2];exact not0))).trans (h4 j x hx)⟩
 have RB:Hid (∀ w' o' s',EmW w' o' rb (.slice al ls.length cl) s'->w'.cell? ⟨rb,6,none⟩=some (.slice al ls.length cl)):=fun w' o' s' E=>by
  obtain⟨-,-,-,vw,vc,vn,vk,mc,mn,q0,-⟩:=E;exact(cells8 q0.1).1.2.2.2.2.2.2.1
 obtain⟨W,hW⟩:∃W,W=clrs A ls 0 s:=⟨_,rfl⟩
 have HW:Hid (W=clrs A (ls.drop 0) 0 s):=by show _=_;rw[hW];rfl
 have HB:Hid (bdy ls (emE ls e) ar u s=emE ls e A u W):=by show _=_;rw[hW,hA];rfl
 have r6:=RB.out _ _ _ E1;obtain⟨k0,k1,k2,k3,a0,a1⟩:=KK.out _ _ (Step.refl I17 w2 o1);have hls2:ls.length<=256:=by omega
 have HA:=Lib.hid hA;clear hW hlv hA;go_enter Tryz.func191,Tryz.ntmps191;go_upto_region 1 with fail;rw[<-hw1,<-HG.out];clear hw1;go_upto_region 2 with fail;rw[<-hw2];clear hw2;clear hAI;go_wp2_with fail;go_loopw [17] (fun vi wr=>∃(k:Nat) (s':Em) (o':Nat->Nat),vi=.int .i64 (k:Nat)/\k<=ls.length/\EmW wr o' rb (.slice al ls.length cl) s'/\Step I17 w2 o1 wr o'/\Grw s s' k/\Hid (W=clrs A (ls.drop k) k s')) (fun vi _=>ls.length-(intOf vi).toNat)
 case atStart=>exact⟨0,s,o1,by go_num,by omega,E1,Step.refl _ _ _,⟨by omega,Nat.le_refl _,rfl,id⟩,HW⟩
 case round =>
  clear HW E1 r6 k0 k1 k2 k3 a0 a1 c0 c1 cf0;obtain⟨k,s',o',rfl,hk,E2,S2,g2,HW⟩:=hrel;obtain⟨k0,k1,k2,k3,a0,a1⟩:=KK.out _ _ S2;by_cases hlt:k<ls.length
  ·have hkI:(k:Int)<(ls.length:Int):=by omega
   have hx:ls[k]?=some ls[k]:=List.getElem?_eq_getElem hlt;have hdr:ls.drop k=ls[k]::ls.drop (k+1):=List.drop_eq_getElem_cons hlt;have HW2:=HW.out;rw[clrs_drop A _ k s' _ _ hdr] at HW2;obtain⟨b,off,rfl,cx⟩:=LV.out _ _ S2 k _ hx;generalize ls[k]=lx at *;by_cases he:lx=(A:Int)
   ·rw[if_pos he] at HW2;have HW3:=Lib.hid HW2;have HL:=lay_c 19 k 0 wr o' rb _ ls s' (by omega) (by omega) (by omega) (by have:=g2.mes;omega) (X1.step S2 not0) E2;have g3:=g2.trans (gr_lay s' 19 k 0);subst he;clear HW2 HW hx hdr;go_wp2_with (first|(go_at_call 41;refine HL.mono ?_;rintro e w3 ⟨rfl,o3,E3,S3⟩));go_roundw
    case rel=>(try ((repeat apply Exists.intro);refine⟨?_,rfl⟩));exact⟨k+1,s'.lay 19 k 0,o3,by go_num,by omega,E3,S2.trans S3,g3,HW3.out⟩
    case measure=>simp[intOf];omega
   ·rw[if_neg he] at HW2;have HW3:=Lib.hid HW2;have g3:=g2.le (m:=k+1) (by omega);clear HW2 HW hx hdr;go_wp2;go_roundw
    case rel=>(try ((repeat apply Exists.intro);refine⟨?_,rfl⟩));exact⟨k+1,s',o',by go_num,by omega,E2,S2,g3,HW3.out⟩
    case measure=>simp[intOf];omega
  ·have hkI:¬(k:Int)<(ls.length:Int):=by omega
   obtain rfl:k=ls.length:=by omega
   have HW2:=HW.out;rw[List.drop_length] at HW2;have HW3:W=s':=HW2;subst HW3;have hA:=HA.out;have HC:=HP e ao cap A u wr o' rb _ ls W hN hoe rfl hnc (SN1.stepO S2 not0) (g2.ks.trans HKS.out) (by have:=g2.mes;omega) hu (by omega) (g2.dp hd) (X1.step S2 not0) E2;rw[exN_out] at HC;have HBO:=HB;clear HW HW2 hA HP hlt;go_wp2_with (first|(go_at_call 40;refine HC.mono ?_;rintro e w3 ⟨rfl,⟨o3,E3,S3⟩,g3⟩))
   go_end0
   exact⟨rfl,by rw[HBO.out];exact⟨⟨o3,E3,(S0.trans S2).trans S3⟩,(g2.trans g3).le (by omega)⟩⟩
structure CxS (rb gw gn gl gs ga gg:Nat)(e:Ex)(ao:Option Addr)(cap ar u op v ag:Nat)(w:World)(o:Nat->Nat):Prop where
 bw:Blk w o 0 gw (.cells #[pt0 rb] 82)
 bn:Blk w o 0 gn (.cells (nodeC e ao cap) 34)
 bl:Blk w o 0 gl (.cells #[.int .i64 (op:Nat)] 3)
 bs:Blk w o 0 gs (.cells #[.int .i64 (v:Nat)] 3)
 ba:Blk w o 0 ga (.cells #[.int .i64 (ar:Nat),.int .i64 (u:Nat)] 86)
 bg:Blk w o 0 gg (.cells #[.int .i64 (ag:Nat)] 3)
 sn:SnO w o e.kids ao
theorem CxS.step {I:Nat->Prop}{rb gw gn gl gs ga gg:Nat}{e:Ex}{ao:Option Addr}{cap ar u op v ag:Nat}{w w':World}{o o':Nat->Nat}(h:CxS rb gw gn gl gs ga gg e ao cap ar u op v ag w o)(x:Step I w o w' o')(hi:¬I 0):CxS rb gw gn gl gs ga gg e ao cap ar u op v ag w' o' :=
 ⟨h.bw.step x hi,h.bn.step x hi,h.bl.step x hi,h.bs.step x hi,h.ba.step x hi,h.bg.step x hi,h.sn.stepO x hi⟩
theorem CxS.keeps (rb gw gn gl gs ga gg:Nat)(e:Ex)(ao:Option Addr)(cap ar u op v ag:Nat):Keeps (CxS rb gw gn gl gs ga gg e ao cap ar u op v ag):=fun h x=>h.step x not0
theorem cl_s1 (nc N:Nat)(HP:EPart nc N)(rb gw gn gl gs ga gg:Nat)(e:Ex)(ao:Option Addr)(cap ar u op v ag:Nat)(lv:Value)(ls:List Int)(hoe:okE nc e)(hN:e.kids.size<N)(hls:ls.length=nc)(hnc:nc<=256)(hop:op<=255)(hv:v<=1)(hag:ag<=100000000)(hu:u+3*(e.kids.size+1)<=1000000000)(har:ar+1+(e.kids.size+1)<=1000000000) :
  Does rb lv ls (CxS rb gw gn gl gs ga gg e ao cap ar u op v ag) 190 #[pt0 gw,pt0 gn,pt0 ga,pt0 gl,pt0 gg,pt0 gs] (fun x=>(((bdy ls (emE ls e) ar u x).lay op ag 0).lay 25 0 0).con (v:Nat) 2 u) (256+300*(e.kids.size+1)+4):=by
 intro w o s X E K hm hd hks;have HC:=body_c nc N HP e ao cap ar u w o rb lv ls s hoe hN hls hnc hu har K.sn hks (by omega) hd X E;rw[exN_out] at HC;have KK:Hid (∀ w' o',Step I17 w o w' o'->w'.cell? ⟨gw,0,none⟩=some (pt0 rb)/\(w'.cell? ⟨gn,0,none⟩=some (.int .i64 e.k)/\w'.cell? ⟨gn,1,none⟩=some (.int .i64 e.n)/\w'.cell? ⟨gn,2,none⟩=some (stv e.nm)/\w'.cell? ⟨gn,3,none⟩=some (.slice ao e.kids.len cap))/\w'.cell? ⟨gl,0,none⟩=some (.int .i64 (op:Nat))/\w'.cell? ⟨gs,0,none⟩=some (.int .i64 (v:Nat))/\w'.cell? ⟨gg,0,none⟩=some (.int .i64 (ag:Nat))/\w'.cell? ⟨ga,0,none⟩=some (.int .i64 (ar:Nat))/\w'.cell? ⟨ga,1,none⟩=some (.int .i64 (u:Nat))):=fun w' o' S=>by
  have K2:=K.step S not0;exact⟨cell1e K2.bw.1,(cells4e K2.bn.1).1,cell1e K2.bl.1,cell1e K2.bs.1,cell1e K2.bg.1,(spot_box K2.ba.1).1,(spot_box K2.ba.1).2⟩
 obtain⟨c0,⟨n0,n1,n2,n3⟩,c2,c3,c4,a0,a1⟩:=KK.out _ _ (Step.refl I17 w o);have HKS:=Lib.hid hks;clear hks hls K HP;go_enter Tryz.func190,Tryz.ntmps190;go_upto_region 1 with (first|(go_at_call 191;refine HC.mono ?_;rintro z w2 ⟨rfl,⟨o2,E2,S2⟩,g2⟩))
 obtain⟨s2,hs2⟩:∃s2,s2=bdy ls (emE ls e) ar u s:=⟨_,rfl⟩
 rw[<-hs2] at E2 g2;have HS2:=Lib.hid hs2;clear hs2 HC c0 n0 n1 n2 n3 c2 c3 c4 a0 a1;obtain⟨c0,⟨n0,n1,n2,n3⟩,c2,c3,c4,a0,a1⟩:=KK.out _ _ S2;have HL:=lay_c op ag 0 w2 o2 rb lv ls s2 hop (by omega) (by omega) (by have:=g2.mes;omega) (X.step S2 not0) E2;go_upto_region 2 with (first|(go_at_call 41;refine HL.mono ?_;rintro z w3 ⟨rfl,o3,E3,S3⟩))
 have S23:=S2.trans S3;have g3:=g2.trans (gr_lay s2 op ag 0);clear HL c0 n0 n1 n2 n3 c2 c3 c4 a0 a1;obtain⟨c0,⟨n0,n1,n2,n3⟩,c2,c3,c4,a0,a1⟩:=KK.out _ _ S23;have HL:=lay_c 25 0 0 w3 o3 rb lv ls (s2.lay op ag 0) (by omega) (by omega) (by omega) (by have:=g3.mes;omega) (X.step S23 not0) E3;go_upto_region 3 with (first|(go_at_call 41;refine HL.mono ?_;rintro z w4 ⟨rfl,o4,E4,S4⟩))
 have S24:=S23.trans S4;have g4:=g3.trans (gr_lay (s2.lay op ag 0) 25 0 0);clear HL c0 n0 n1 n2 n3 c2 c3 c4 a0 a1;obtain⟨c0,⟨n0,n1,n2,n3⟩,c2,c3,c4,a0,a1⟩:=KK.out _ _ S24;have HL:=constant_c (v:Nat) 2 ar u w4 o4 rb lv ls ((s2.lay op ag 0).lay 25 0 0) (by omega) (by omega) (by omega) (g4.dp hd) (by have:=g4.mes;omega) (X.step S24 not0) E4;go_wp2_with (first|(go_at_call 74;refine HL.mono ?_;rintro z w5 ⟨rfl,o5,E5,S5⟩))
 go_end0
 exact⟨rfl,by rw[<-HS2.out];exact⟨⟨o5,E5,S24.trans S5⟩,(g4.trans (gr_con _ _ _ _ (by omega))).le (by omega)⟩⟩
theorem cl_s2 (rb gw gs ga ar u v:Nat)(lv:Value)(ls:List Int)(hv:v<=1)(hu:u<=1000000000) :
  Does rb lv ls (fun w o=>Blk w o 0 gw (.cells #[pt0 rb] 82)/\Blk w o 0 gs (.cells #[.int .i64 (v:Nat)] 3)/\Blk w o 0 ga (.cells #[.int .i64 (ar:Nat),.int .i64 (u:Nat)] 86)) 192 #[pt0 gw,pt0 gs,pt0 ga] (fun t=>t.con (1-(v:Int)) 2 u) 2:=by
 intro w o s X E ⟨bw,bs,ba⟩ hm hd hks;have cw:=cell1e bw.1;have cs:=cell1e bs.1;obtain⟨a0,a1⟩:=spot_box ba.1;have HC:=constant_c (1-(v:Int)) 2 ar u w o rb lv ls s (by omega) (by omega) hu hd (by omega) X E;clear bw bs ba hks;go_enter Tryz.func192,Tryz.ntmps192;go_wp2_with (first|(go_at_call 74;refine HC.mono ?_;rintro e w2 ⟨rfl,o2,E2,S2⟩))
 go_end0
 exact⟨rfl,⟨o2,E2,S2⟩,gr_con s _ _ _ hu⟩
theorem ent_s1:Ent 190:=fun _ _=>by kernel_rfl
theorem ent_s2:Ent 192:=fun _ _=>by kernel_rfl
theorem search_c (nc N:Nat)(HP:EPart nc N)(e:Ex)(ao:Option Addr)(cap op v ar u:Nat)(w:World)(o:Nat->Nat)(rb:Nat)(lv:Value)(ls:List Int)(s:Em)(hoe:okE nc e)(hN:e.kids.size<N)(hls:ls.length=nc)(hnc:nc<=256)(hop:op<=255)(hv:v<=1)(hu:u+3*(e.kids.size+1)<=1000000000)(har:ar+1+(e.kids.size+1)<=1000000000)(S:SnO w o e.kids ao)(hks:s.ks.length=ls.length)
  (hm:s.mes+(256+300*(e.kids.size+1)+8)<=100000000) (hd:s.dp<=1000000001) (X:EmX w o lv ls) (h:EmW w o rb lv s) :
  Calls Tryz.prog 128 #[pt0 rb,exN e ao cap,.int .i64 (op:Nat),.int .i64 (v:Nat),spV ar u] w (PosQ w o rb lv s (srch ls (emE ls e) op (v:Int) ar u s) (256+300*(e.kids.size+1)+8)):=by
 have hmf:∀ (fn:Fn) (first cap:Array Value) (w:World),(Instr.makeFunc fn first cap).run Tryz.prog w=.ok (.func fn first cap) w:=fun _ _ _ _=>rfl;rw[exN_out];obtain⟨g,hg⟩:∃g,g=w.heap.size:=⟨_,rfl⟩
 obtain⟨w1,hw1⟩:∃w1,w1=((((w.alloc (.cells #[pt0 rb] 82)).alloc (.cells (nodeC e ao cap) 34)).alloc (.cells #[.int .i64 (op:Nat)] 3)).alloc (.cells #[.int .i64 (v:Nat)] 3)).alloc (.cells #[.int .i64 (ar:Nat),.int .i64 (u:Nat)] 86):=⟨_,rfl⟩
 obtain⟨z1,z2,z3,z4,z5,z6,z7⟩:=al5 w (.cells #[pt0 rb] 82) (.cells (nodeC e ao cap) 34) (.cells #[.int .i64 (op:Nat)] 3) (.cells #[.int .i64 (v:Nat)] 3) (.cells #[.int .i64 (ar:Nat),.int .i64 (u:Nat)] 86);rw[<-hw1,<-hg] at z1 z2 z3 z4 z5 z6 z7;obtain⟨w2,hw2⟩:∃w2,w2=w1.alloc (.cells #[.int .i64 (s.ws.length:Nat)] 3):=⟨_,rfl⟩
 have y6:w2.heap[g+5]?=some (.cells #[.int .i64 (s.ws.length:Nat)] 3):=by rw[hw2,<-z6];exact heap_alloc_new _ _
 have hold:∀ k,k<g+5->w2.heap[k]?=w1.heap[k]?:=fun k hk=>by rw[hw2];exact heap_alloc_old _ _ (by omega)
 have B2:Below g w w2:=by rw[hw2];exact z7.alloc (by omega) _
 have s0:∀ {I:Nat->Prop},Step I w o w2 (newLab w o 0):=fun {I}=>stepN o (by rw[<-hg];exact B2);have hnl:∀ j,newLab w o 0 (g+j)=0:=fun j=>newLab_new (by omega);have K2:CxS rb g (g+1) (g+2) (g+3) (g+4) (g+5) e ao cap ar u op v s.ws.length w2 (newLab w o 0) :=
  ⟨⟨(hold _ (by omega)).trans z1,hnl 0⟩,⟨(hold _ (by omega)).trans z2,hnl 1⟩,⟨(hold _ (by omega)).trans z3,hnl 2⟩,⟨(hold _ (by omega)).trans z4,hnl 3⟩,⟨(hold _ (by omega)).trans z5,hnl 4⟩,⟨y6,hnl 5⟩,S.stepO (s0 (I:=fun _=>False)) id⟩
 have E2:=h.step (s0 (I:=fun _=>False)) noF;have X2:=X.step (s0 (I:=fun _=>False)) id;have S0:=s0 (I:=I17);have HN:=next_c w1 o rb lv s (h.below (by rw[<-hg];exact z7));have cw1:=cell1e z1;generalize newLab w o 0=o1 at *;have hwl:s.ws.length<=100000000:=by unfold Em.mes at hm;omega
 have HF:=fork_c 24 190 192 #[pt0 g,pt0 (g+1),pt0 (g+4),pt0 (g+2),pt0 (g+5),pt0 (g+3)] #[pt0 g,pt0 (g+3),pt0 (g+4)] (fun x=>(((bdy ls (emE ls e) ar u x).lay op s.ws.length 0).lay 25 0 0).con (v:Nat) 2 u) (fun t=>t.con (1-(v:Int)) 2 u) (256+300*(e.kids.size+1)+4) 2 _ (CxS.keeps _ _ _ _ _ _ _ _ _ _ _ _ _ _ _) ent_s1 ent_s2 w2 o1 rb lv ls (cl_s1 nc N HP rb g (g+1) (g+2) (g+3) (g+4) (g+5) e ao cap ar u op v s.ws.length lv ls hoe hN hls hnc hop hv hwl hu har) ((cl_s2 rb g (g+3) (g+4) ar u v lv ls hv (by omega)).mono (fun _ _ h=>⟨h.bw,h.bs,h.ba⟩)) s (by omega) (by omega) hd hks X2 E2 K2;have HG:=Lib.hid hg;have HZ:=Lib.hid z6;have c2:=cell1e K2.bw.1;clear s0 hnl z1 z2 z3 z4 z5 z6 z7 y6 hold B2 h X S hg hks hls HP X2 E2 K2;go_enter Tryz.func128,Tryz.ntmps128;go_upto_region 1 with fail;rw[<-hw1,<-HG.out];clear hw1;go_upto_region 2 with (first|(go_at_call 189;refine HN.mono ?_;rintro z w1b ⟨rfl,hww⟩;subst hww))
 rw[<-hw2,HZ.out];clear hw2;go_wp2_with (first|(go_at_call 79;refine HF.mono ?_;rintro z w4 ⟨rfl,⟨o4,E4,S4⟩,g4⟩))
 go_end0
 exact⟨rfl,⟨o4,E4,S0.trans S4⟩,g4.le (by omega)⟩
def DoesA (rb:Nat)(lv:Value)(ls:List Int)(K:World->(Nat->Nat)->Prop)(F:FuncId)(c:Array Value)(t:Nat->Em->Em)(n:Nat):Prop :=
 ∀ ag:Nat,ag<=100000000->∀ w o s,EmX w o lv ls->EmW w o rb lv s->K w o->s.mes+n<=100000000->s.dp<=1000000001->s.ks.length=ls.length->Calls Tryz.prog F (#[.int .i64 (ag:Nat)]++c) w (PosQ w o rb lv s (t ag s) n)
theorem gather_c (nc N:Nat)(HP:EPart nc N)(F:FuncId)(c:Array Value)(t:Nat->Em->Em)(n:Nat)(K:World->(Nat->Nat)->Prop)(hK:Keeps K)(HE:Ent F)(e:Ex)(ao:Option Addr)(cap ar u:Nat)(w:World)(o:Nat->Nat)(rb:Nat)(lv:Value)(ls:List Int)(H:DoesA rb lv ls K F c t n)(s:Em)(hoe:okE nc e)(hN:e.kids.size<N)(hls:ls.length=nc)(hnc:nc<=256)(hu:u+3*(e.kids.size+1)<=1000000000)(har:ar+1+(e.kids.size+1)<=1000000000)(S:SnO w o e.kids ao)(hks:s.ks.length=ls.length)
  (hm:s.mes+(256+300*(e.kids.size+1)+n+2)<=100000000) (hd:s.dp<=1000000001) (X:EmX w o lv ls) (h:EmW w o rb lv s) (k:K w o) :
  Calls Tryz.prog 129 #[pt0 rb,exN e ao cap,spV ar u,.func (.func F) #[] c] w (PosQ w o rb lv s (gath ls (emE ls e) t ar u s) (256+300*(e.kids.size+1)+n+2)):=by
 rw[exN_out];obtain⟨g,hg⟩:∃g,g=w.heap.size:=⟨_,rfl⟩
 obtain⟨w1,hw1⟩:∃w1,w1=(w.alloc (.cells (nodeC e ao cap) 34)).alloc (.cells #[.int .i64 (ar:Nat),.int .i64 (u:Nat)] 86):=⟨_,rfl⟩
 obtain⟨z1,z2,z5,z6⟩:=al2 w (.cells (nodeC e ao cap) 34) (.cells #[.int .i64 (ar:Nat),.int .i64 (u:Nat)] 86);rw[<-hw1,<-hg] at z1 z2 z5 z6;have s0:∀ {I:Nat->Prop},Step I w o w1 (newLab w o 0):=fun {I}=>stepN o (by rw[<-hg];exact z6);have hnl:∀ j,newLab w o 0 (g+j)=0:=fun j=>newLab_new (by omega);have K1:Blk w1 (newLab w o 0) 0 g (.cells (nodeC e ao cap) 34)/\Blk w1 (newLab w o 0) 0 (g+1) (.cells #[.int .i64 (ar:Nat),.int .i64 (u:Nat)] 86):=⟨⟨z1,hnl 0⟩,⟨z2,hnl 1⟩⟩
 have SN1:=S.stepO (s0 (I:=fun _=>False)) id;have E1:=h.step (s0 (I:=fun _=>False)) noF;have X1:=X.step (s0 (I:=fun _=>False)) id;have S0:=s0 (I:=I17);have k1:=hK k S0;generalize newLab w o 0=o1 at *;have KK:Hid (∀ w' o',Step I17 w1 o1 w' o'->(w'.cell? ⟨g,0,none⟩=some (.int .i64 e.k)/\w'.cell? ⟨g,1,none⟩=some (.int .i64 e.n)/\w'.cell? ⟨g,2,none⟩=some (stv e.nm)/\w'.cell? ⟨g,3,none⟩=some (.slice ao e.kids.len cap))/\w'.cell? ⟨g+1,0,none⟩=some (.int .i64 (ar:Nat))/\w'.cell? ⟨g+1,1,none⟩=some (.int .i64 (u:Nat))):=fun w' o' S=>⟨(cells4e (K1.1.step S not0).1).1,(spot_box (K1.2.step S not0).1).1,(spot_box (K1.2.step S not0).1).2⟩;have HN:=next_c w1 o1 rb lv s E1;have HL:=lay_c 24 0 0 w1 o1 rb lv ls s (by omega) (by omega) (by omega) (by omega) X1 E1;have HKS:=Lib.hid hks;have HG:=Lib.hid hg;have hwl:s.ws.length<=100000000:=by unfold Em.mes at hm;omega
 have g1:=gr_lay s 24 0 0;have HT:Hid (gath ls (emE ls e) t ar u s=((t s.ws.length (bdy ls (emE ls e) ar u (s.lay 24 0 0))).lay 13 s.ws.length 0).land s.ws.length):=rfl;have HB:∀ w2 o2,EmX w2 o2 lv ls->EmW w2 o2 rb lv (s.lay 24 0 0)->SnO w2 o2 e.kids ao->_:=fun w2 o2 X2 E2 SN2=>body_c nc N HP e ao cap ar u w2 o2 rb lv ls (s.lay 24 0 0) hoe hN hls hnc hu har SN2 (g1.ks.trans hks) (by have:=g1.mes;omega) (g1.dp hd) X2 E2;clear s0 hnl z1 z2 z5 z6 h X S hg hks hls HP K1 k E1
 go_enter_defers Tryz.func129,Tryz.ntmps129
 go_upto_region 1 with fail;rw[<-hw1,<-HG.out];clear hw1;go_upto_region 2 with (first|(go_at_call 189;refine HN.mono ?_;rintro z w1b ⟨rfl,hww⟩;subst hww))
 go_upto_region 3 with (first|(go_at_call 41;refine HL.mono ?_;rintro z w2 ⟨rfl,o2,E2,S2⟩))
 clear HN HL;have HC:=HB w2 o2 (X1.step S2 not0) E2 (SN1.stepO S2 not0);rw[exN_out] at HC;obtain⟨⟨n0,n1,n2,n3⟩,a0,a1⟩:=KK.out _ _ S2;go_upto_region 4 with (first|(go_at_call 191;refine HC.mono ?_;rintro z w3 ⟨rfl,⟨o3,E3,S3⟩,g3⟩))
 obtain⟨s3,hs3⟩:∃s3,s3=bdy ls (emE ls e) ar u (s.lay 24 0 0):=⟨_,rfl⟩
 rw[<-hs3] at E3 g3 HT;clear hs3 HB HC n0 n1 n2 n3 a0 a1;have S13:=S2.trans S3;have g13:=g1.trans g3;have HF:=H s.ws.length hwl w3 o3 s3 (X1.step S13 not0) E3 (hK k1 S13) (by have:=g13.mes;omega) (g13.dp hd) (g13.ks.trans HKS.out);go_wp2_with fail;refine HF.mono ?_;rintro z w4 ⟨rfl,⟨o4,E4,S4⟩,g4⟩;obtain⟨s4,hs4⟩:∃s4,s4=t s.ws.length s3:=⟨_,rfl⟩
 rw[<-hs4] at E4 g4 HT;clear hs4 HF HE;have S14:=S13.trans S4;have g14:=g13.trans g4;have HL:=lay_c 13 s.ws.length 0 w4 o4 rb lv ls s4 (by omega) (by omega) (by omega) (by have:=g14.mes;omega) (X1.step S14 not0) E4;go_wp2_with (first|(go_at_call 41;refine HL.mono ?_;rintro z w5 ⟨rfl,o5,E5,S5⟩));have S15:=S14.trans S5;have g15:=g14.trans (gr_lay s4 13 s.ws.length 0);have hlt:s.ws.length<(s4.lay 13 s.ws.length 0).ws.length:=by
  have h1:=g4.ws;have h2:=g3.ws;have h3:(s.lay 24 0 0).ws.length=s.ws.length+1:=by simp[Em.lay]
  have h4:(s4.lay 13 s.ws.length 0).ws.length=s4.ws.length+1:=by simp[Em.lay]
  omega
 have HD:=land_d s.ws.length .returning w5 o5 rb lv ls (s4.lay 13 s.ws.length 0) hlt (by have:=g15.mes;omega) (X1.step S15 not0) E5;refine leaves_cons (f:=126) (args:=#[.pointer (some ⟨rb,0,none⟩),.int .i64 (s.ws.length:Nat)]) (by simp) (by simp[go_sem]) ?_;refine HD.mono ?_;rintro z u' w6 ⟨rfl,rfl,o6,E6,S6⟩;exact⟨_,results_none rfl _ _ _,rfl,by rw[HT.out];exact⟨⟨o6,E6,(S0.trans S15).trans S6⟩,(g15.trans (gr_land _ _)).le (by omega)⟩⟩
theorem cl_q1 (rb gw ga ar u:Nat)(lv:Value)(ls:List Int)(hu:u+1<=1000000000) :
  DoesA rb lv ls (fun w o=>Blk w o 0 gw (.cells #[pt0 rb] 82)/\Blk w o 0 ga (.cells #[.int .i64 (ar:Nat),.int .i64 (u:Nat)] 86)) 130 #[pt0 gw,pt0 ga] (fun g x=>((x.lay 14 g 0).con 1 1 (u+1)).lay 6 0 0) 4:=by
 intro ag hag w o s X E ⟨bw,ba⟩ hm hd hks;have HL:=lay_c 14 ag 0 w o rb lv ls s (by omega) (by omega) (by omega) (by omega) X E;have KK:Hid (∀ w' o',Step I17 w o w' o'->w'.cell? ⟨gw,0,none⟩=some (pt0 rb)/\w'.cell? ⟨ga,0,none⟩=some (.int .i64 (ar:Nat))/\w'.cell? ⟨ga,1,none⟩=some (.int .i64 (u:Nat))):=fun w' o' S=>⟨cell1e (bw.step S not0).1,(spot_box (ba.step S not0).1).1,(spot_box (ba.step S not0).1).2⟩;obtain⟨c0,a0,a1⟩:=KK.out _ _ (Step.refl I17 w o);have g1:=gr_lay s 14 ag 0;have HO:=fun w'=>over_e ar u 1 w' (by omega) (by omega);clear bw ba hks;go_enter Tryz.func130,Tryz.ntmps130;go_upto_region 1 with (first|(go_at_call 41;refine HL.mono ?_;rintro z w2 ⟨rfl,o2,E2,S2⟩))
 clear HL c0 a0 a1;have d2:Step I17 w2 o2 w2.drew o2:=(Step.refl _ w2 o2).drew;have S2d:=S2.trans d2;obtain⟨c0,a0,a1⟩:=KK.out _ _ S2;obtain⟨e0,e1,e2⟩:=KK.out _ _ S2d;have XD:=X.step S2d not0;have ED:=E2.step ((Step.refl (fun _=>False) w2 o2).drew) noF;have HC:∀ w3,Below w2.drew.heap.size w2.drew w3->Calls Tryz.prog 74 #[.pointer (some ⟨rb,0,none⟩),.int .i64 1,.int .i64 1,spV ar (u+1)] w3 (PosE w3 o2 rb lv ((s.lay 14 ag 0).con 1 1 (u+1)) (.tuple #[])):=fun w3 B=>constant_c 1 1 ar (u+1) w3 o2 rb lv ls (s.lay 14 ag 0) (by omega) (by omega) (by omega) (g1.dp hd) (by have:=g1.mes;omega) (XD.below B) (ED.below B);go_region_held3 (fun wx=>wx.cell? ⟨gw,0,none⟩=some (pt0 rb)/\wx.cell? ⟨ga,0,none⟩=some (.int .i64 (ar:Nat))/\wx.cell? ⟨ga,1,none⟩=some (.int .i64 (u:Nat))) (go_keep) (first|(go_at_call 84;refine(HO _).mono ?_;rintro z w3 ⟨rfl,B3⟩;have S3:=S2d.trans (Step.ofBelow (I:=I17) o2 B3);obtain⟨e0,e1,e2⟩:=KK.out _ _ S3;have HC3:=HC w3 B3)|(go_at_call 74;refine HC3.mono ?_;rintro z w4 ⟨rfl,o4,E4,S4⟩;obtain⟨e0,e1,e2⟩:=KK.out _ _ (S3.trans S4)))
 all_goals
  have S34:=S3.trans S4;have g4:=g1.trans (gr_con (s.lay 14 ag 0) 1 1 (u+1) hu);have HL:=lay_c 6 0 0 w4 o4 rb lv ls ((s.lay 14 ag 0).con 1 1 (u+1)) (by omega) (by omega) (by omega) (by have:=g4.mes;omega) (X.step S34 not0) E4;clear HC HO HC3;go_wp2_with (first|(go_at_call 41;refine HL.mono ?_;rintro z w5 ⟨rfl,o5,E5,S5⟩))
  go_end0
  exact⟨rfl,⟨o5,E5,S34.trans S5⟩,(g4.trans (gr_lay _ _ _ _)).le (by omega)⟩
theorem cl_q2 (rb gw:Nat)(lv:Value)(ls:List Int) :
  DoesA rb lv ls (fun w o=>Blk w o 0 gw (.cells #[pt0 rb] 82)) 131 #[pt0 gw] (fun _ x=>x.lay 6 0 0) 4:=by
 intro ag hag w o s X E bw hm hd hks;have HL:=lay_c 6 0 0 w o rb lv ls s (by omega) (by omega) (by omega) (by omega) X E;have c0:=cell1e bw.1;clear bw hks;go_enter Tryz.func131,Tryz.ntmps131;go_wp2_with (first|(go_at_call 41;refine HL.mono ?_;rintro z w5 ⟨rfl,o5,E5,S5⟩))
 go_end0
 exact⟨rfl,⟨o5,E5,S5⟩,(gr_lay _ _ _ _).le (by omega)⟩
theorem cl_q3 (rb gw gn:Nat)(e:Ex)(ao:Option Addr)(cap:Nat)(lv:Value)(ls:List Int)(hn:e.n=5\/e.n=6) :
  DoesA rb lv ls (fun w o=>Blk w o 0 gw (.cells #[pt0 rb] 82)/\Blk w o 0 gn (.cells (nodeC e ao cap) 34)) 132 #[pt0 gw,pt0 gn] (fun _ x=>x.lay 26 (e.n-5).toNat 0) 4:=by
 intro ag hag w o s X E ⟨bw,bn⟩ hm hd hks;obtain⟨j,hj⟩:∃j:Nat,(j:Int)=e.n-5:=⟨(e.n-5).toNat,by omega⟩
 have hj2:(e.n-5).toNat=j:=by omega
 have hj3:j<=1:=by omega
 rw[hj2];have HL:=lay_c 26 j 0 w o rb lv ls s (by omega) (by omega) (by omega) (by omega) X E;have c0:=cell1e bw.1;obtain⟨⟨n0,n1,n2,n3⟩,-⟩:=cells4e bn.1;have hb1:-9223372036854775808<=e.n-5/\e.n-5<=9223372036854775807:=by omega
 have hj4:e.n-5=(j:Int):=hj.symm;generalize e.n=en at *;clear bw bn hks hj hj2;go_enter Tryz.func132,Tryz.ntmps132;go_wp2_with (first|(go_at_call 41;refine HL.mono ?_;rintro z w5 ⟨rfl,o5,E5,S5⟩))
 go_end0
 exact⟨rfl,⟨o5,E5,S5⟩,(gr_lay _ _ _ _).le (by omega)⟩
theorem ent_q1:Ent 130:=fun _ _=>by kernel_rfl
theorem ent_q2:Ent 131:=fun _ _=>by kernel_rfl
theorem ent_q3:Ent 132:=fun _ _=>by kernel_rfl
structure CxQ (rb gw gn ga gt gb:Nat)(q t b:Ex)(ao:Option Addr)(cap:Nat)(at1:Option Addr)(ct:Nat)(ab:Option Addr)(cb ar u:Nat)(w:World)(o:Nat->Nat):Prop where
 bw:Blk w o 0 gw (.cells #[pt0 rb] 82)
 bn:Blk w o 0 gn (.cells (nodeC q ao cap) 34)
 ba:Blk w o 0 ga (.cells #[.int .i64 (ar:Nat),.int .i64 (u:Nat)] 86)
 bt:Blk w o 0 gt (.cells (nodeC t at1 ct) 34)
 bb:Blk w o 0 gb (.cells (nodeC b ab cb) 34)
 st:SnO w o t.kids at1
 sb:SnO w o b.kids ab
theorem CxQ.step {I:Nat->Prop}{rb gw gn ga gt gb:Nat}{q t b:Ex}{ao:Option Addr}{cap:Nat}{at1:Option Addr}{ct:Nat}{ab:Option Addr}{cb ar u:Nat}{w w':World}{o o':Nat->Nat}(h:CxQ rb gw gn ga gt gb q t b ao cap at1 ct ab cb ar u w o)(x:Step I w o w' o')(hi:¬I 0):CxQ rb gw gn ga gt gb q t b ao cap at1 ct ab cb ar u w' o' :=
 ⟨h.bw.step x hi,h.bn.step x hi,h.ba.step x hi,h.bt.step x hi,h.bb.step x hi,h.st.stepO x hi,h.sb.stepO x hi⟩
theorem CxQ.keeps (rb gw gn ga gt gb:Nat)(q t b:Ex)(ao:Option Addr)(cap:Nat)(at1:Option Addr)(ct:Nat)(ab:Option Addr)(cb ar u:Nat):Keeps (CxQ rb gw gn ga gt gb q t b ao cap at1 ct ab cb ar u):=fun h x=>h.step x not0
theorem DoesA.mono {rb:Nat}{lv:Value}{ls:List Int}{K K':World->(Nat->Nat)->Prop}{F:FuncId}{c:Array Value}{t:Nat->Em->Em}{n:Nat}(h:DoesA rb lv ls K F c t n)(hk:∀ w o,K' w o->K w o):DoesA rb lv ls K' F c t n:=fun ag hag w o s X E k=>h ag hag w o s X E (hk w o k)
theorem quant_c (nc N:Nat)(HP:EPart nc N)(n:Int)(nm:List UInt8)(a:Int)(t b:Ex)(ao:Option Addr)(cap ar u:Nat)(w:World)(o:Nat->Nat)(rb:Nat)(lv:Value)(ls:List Int)(s:Em)(hn:1<=n/\n<=6)(hok:okF nc (Fs.ex t (Fs.ex b .nil)))(hN1:t.kids.size<N)(hN2:b.kids.size<N)(hls:ls.length=nc)(hnc:nc<=256)(hu:u+3*(t.kids.size+b.kids.size+3)<=1000000000)(har:ar+(t.kids.size+b.kids.size+3)<=1000000000)(S:SnO w o (Fs.ex t (Fs.ex b .nil)) ao)(hks:s.ks.length=ls.length)
  (hm:s.mes+300*(t.kids.size+b.kids.size+3)<=100000000) (hd:s.dp<=1000000001) (X:EmX w o lv ls) (h:EmW w o rb lv s) :
  Calls Tryz.prog 83 #[pt0 rb,exN ⟨21,n,nm,a,Fs.ex t (Fs.ex b .nil)⟩ ao cap,spV ar u] w (PosQ w o rb lv s (qua ls n (emE ls t) (emE ls b) ar u s) (300*(t.kids.size+b.kids.size+3))):=by
 have hmf:∀ (fn:Fn) (first cap:Array Value) (w:World),(Instr.makeFunc fn first cap).run Tryz.prog w=.ok (.func fn first cap) w:=fun _ _ _ _=>rfl;rw[exN_out];simp only;obtain⟨g,hg⟩:∃g,g=w.heap.size:=⟨_,rfl⟩
 obtain⟨w1,hw1⟩:∃w1,w1=((w.alloc (.cells #[pt0 rb] 82)).alloc (.cells #[.int .i64 21,.int .i64 n,stv nm,.slice ao (Fs.ex t (Fs.ex b .nil)).len cap] 34)).alloc (.cells #[.int .i64 (ar:Nat),.int .i64 (u:Nat)] 86):=⟨_,rfl⟩
 obtain⟨z1,z2,z3,z4,z5⟩:=al3 w (.cells #[pt0 rb] 82) (.cells #[.int .i64 21,.int .i64 n,stv nm,.slice ao (Fs.ex t (Fs.ex b .nil)).len cap] 34) (.cells #[.int .i64 (ar:Nat),.int .i64 (u:Nat)] 86);rw[<-hw1,<-hg] at z1 z2 z3 z4 z5;have s0:∀ {I:Nat->Prop},Step I w o w1 (newLab w o 0):=fun {I}=>stepN o (by rw[<-hg];exact z5);have hnl:∀ j,newLab w o 0 (g+j)=0:=fun j=>newLab_new (by omega);have SN1:=S.stepO (s0 (I:=fun _=>False)) id;have E1:=h.step (s0 (I:=fun _=>False)) noF;have X1:=X.step (s0 (I:=fun _=>False)) id;have S0:=s0 (I:=I17);have b1w:Blk w1 (newLab w o 0) 0 g (.cells #[pt0 rb] 82):=⟨z1,hnl 0⟩
 have b1n:Blk w1 (newLab w o 0) 0 (g+1) (.cells #[.int .i64 21,.int .i64 n,stv nm,.slice ao (Fs.ex t (Fs.ex b .nil)).len cap] 34):=⟨z2,hnl 1⟩
 have b1a:Blk w1 (newLab w o 0) 0 (g+2) (.cells #[.int .i64 (ar:Nat),.int .i64 (u:Nat)] 86):=⟨z3,hnl 2⟩
 generalize newLab w o 0=o1 at *;have HG:=Lib.hid hg;have hlen:(Fs.ex t (Fs.ex b .nil)).len=2:=rfl;obtain⟨b0,off,ak,ck,rfl,-,Sy,NK⟩:=kidO (x:=.nil) SN1 0 rfl;obtain⟨b0',off',ak2,ck2,hbo,-,Sy2,NK2⟩:=kidO (x:=one t) SN1 1 rfl;cases hbo;rw[hlen] at hw1 b1n ⊢;obtain⟨⟨n0,n1,n2,n3⟩,-⟩:=cells4e b1n.1;have CC:∀ wx ox,Step (fun _=>False) w1 o1 wx ox->wx.cell? ⟨g+1,3,none⟩=some (.slice (some ⟨b0,off,none⟩) 2 cap)/\wx.cell? ⟨b0,off,none⟩=some (.int .i64 t.k)/\wx.cell? ⟨b0,off+1,none⟩=some (.int .i64 t.n)/\wx.cell? ⟨b0,off+2,none⟩=some (stv t.nm)/\wx.cell? ⟨b0,off+3,none⟩=some (.slice ak t.kids.len ck)/\wx.cell? ⟨b0,off+4,none⟩=some (.int .i64 b.k)/\wx.cell? ⟨b0,off+5,none⟩=some (.int .i64 b.n)/\wx.cell? ⟨b0,off+6,none⟩=some (stv b.nm)/\wx.cell? ⟨b0,off+7,none⟩=some (.slice ak2 b.kids.len ck2):=fun wx ox x=>by
  obtain⟨p0,p1,p2,p3⟩:=NK x id;obtain⟨q0,q1,q2,q3⟩:=NK2 x id;exact⟨(cells4e (b1n.step x id).1).1.2.2.2,p0,p1,p2,p3,q0,q1,q2,q3⟩
 obtain⟨m3,x0,x1,x2,x3,y0,y1,y2,y3⟩:=CC w1 o1 (Step.refl _ _ _);obtain⟨m3',x0',x1',x2',x3',y0',y1',y2',y3'⟩:=CC w1.drew o1 ((Step.refl _ _ _).drew);have hsz:=z4;clear s0 hnl z1 z2 z3 z4 z5 h X S hg;have HLS:=Lib.hid hls;have HKS:=Lib.hid hks;clear hsz hks hls;go_enter Tryz.func83,Tryz.ntmps83;go_upto_region 1 with fail;rw[<-hw1,<-HG.out];clear hw1;go_cut [6,7] (fun v6 v7 wx=>∃gt gb o2,v6=pt0 gt/\v7=pt0 gb/\CxQ rb g (g+1) (g+2) gt gb ⟨21,n,nm,a,Fs.ex t (Fs.ex b .nil)⟩ t b (some ⟨b0,off,none⟩) cap ak ck ak2 ck2 ar u wx o2/\EmW wx o2 rb lv s/\Step I17 w1 o1 wx o2)
 case first =>
  have HX:Hid (∀ (p q:Obj) (gt gb:Nat),((w1.alloc p).alloc q).drew.heap[gt]?=some (.cells (nodeC t ak ck) 34)->((w1.alloc p).alloc q).drew.heap[gb]?=some (.cells (nodeC b ak2 ck2) 34)->w1.heap.size<=gt->w1.heap.size<=gb->∃o2,CxQ rb g (g+1) (g+2) gt gb ⟨21,n,nm,a,Fs.ex t (Fs.ex b .nil)⟩ t b (some ⟨b0,off,none⟩) cap ak ck ak2 ck2 ar u ((w1.alloc p).alloc q).drew o2/\EmW ((w1.alloc p).alloc q).drew o2 rb lv s/\Step I17 w1 o1 ((w1.alloc p).alloc q).drew o2):=fun p q gt gb h1 h2 h3 h4=>by
   have B:=(al2 w1 p q).2.2.2.drew;have x:Step (fun _=>False) w1 o1 ((w1.alloc p).alloc q).drew (newLab w1 o1 0):=stepN o1 B;exact⟨newLab w1 o1 0,⟨b1w.step x id,b1n.step x id,b1a.step x id,⟨h1,newLab_new h3⟩,⟨h2,newLab_new h4⟩,Sy.stepO x id,Sy2.stepO x id⟩,E1.step x noF,stepN o1 B⟩
  have A1:=fun p q=>al2 w1 p q;clear b1w b1n b1a Sy Sy2 NK NK2 CC SN1 E1 X1 HP;go_region_held3 (fun wx=>wx.cell? ⟨g+1,3,none⟩=some (.slice (some ⟨b0,off,none⟩) 2 cap)/\wx.cell? ⟨b0,off,none⟩=some (.int .i64 t.k)/\wx.cell? ⟨b0,off+1,none⟩=some (.int .i64 t.n)/\wx.cell? ⟨b0,off+2,none⟩=some (stv t.nm)/\wx.cell? ⟨b0,off+3,none⟩=some (.slice ak t.kids.len ck)/\wx.cell? ⟨b0,off+4,none⟩=some (.int .i64 b.k)/\wx.cell? ⟨b0,off+5,none⟩=some (.int .i64 b.n)/\wx.cell? ⟨b0,off+6,none⟩=some (stv b.nm)/\wx.cell? ⟨b0,off+7,none⟩=some (.slice ak2 b.kids.len ck2)) (go_keep) (fail)
  ·go_wp2;go_meet;obtain⟨o2,h1,h2,h3⟩:=HX.out _ _ w1.heap.size (w1.heap.size+1) (A1 _ _).1 (A1 _ _).2.1 (by omega) (by omega);exact⟨_,_,o2,rfl,rfl,h1,h2,h3⟩
  ·go_wp2;go_meet;obtain⟨o2,h1,h2,h3⟩:=HX.out _ _ (w1.heap.size+1) w1.heap.size (A1 _ _).2.1 (A1 _ _).1 (by omega) (by omega);exact⟨_,_,o2,rfl,rfl,h1,h2,h3⟩
 case rest =>
  obtain⟨gt,gb,o2,rfl,rfl,Q2,E2,S2⟩:=hcut;clear m3 m3' x0 x1 x2 x3 y0 y1 y2 y3 x0' x1' x2' x3' y0' y1' y2' y3' CC NK NK2 Sy Sy2 b1n b1w b1a n0 n1 n2 n3;have XC:=X1.step S2 not0;have okt:=(okF_ex hok).1;have okb:=(okF_ex (okF_ex hok).2).1;have HC:=HP t ak ck ar u wc o2 rb lv ls s hN1 okt HLS.out hnc Q2.st HKS.out (by omega) (by omega) (by omega) hd XC E2;rw[exN_out] at HC;have KK:Hid (∀ w' o',Step I17 wc o2 w' o'->w'.cell? ⟨g,0,none⟩=some (pt0 rb)/\(w'.cell? ⟨gb,0,none⟩=some (.int .i64 b.k)/\w'.cell? ⟨gb,1,none⟩=some (.int .i64 b.n)/\w'.cell? ⟨gb,2,none⟩=some (stv b.nm)/\w'.cell? ⟨gb,3,none⟩=some (.slice ak2 b.kids.len ck2))/\w'.cell? ⟨g+2,0,none⟩=some (.int .i64 (ar:Nat))/\w'.cell? ⟨g+2,1,none⟩=some (.int .i64 (u:Nat))/\w'.cell? ⟨g+1,1,none⟩=some (.int .i64 n)):=fun w' o' S=>by
   have Q:=Q2.step S not0;exact⟨cell1e Q.bw.1,(cells4e Q.bb.1).1,(spot_box Q.ba.1).1,(spot_box Q.ba.1).2,(cells4e Q.bn.1).1.2.1⟩
  obtain⟨c0,⟨t0,t1,t2,t3⟩,a0,a1,n1⟩:=KK.out _ _ (Step.refl I17 wc o2);obtain⟨⟨s0,s1,s2,s3⟩,-⟩:=cells4e Q2.bt.1;go_upto_region 3 with (first|(go_at_call 40;refine HC.mono ?_;rintro z w3 ⟨rfl,⟨o3,E3,S3⟩,g3⟩))
  clear c0 t0 t1 t2 t3 a0 a1 n1 s0 s1 s2 s3;obtain⟨c0,⟨t0,t1,t2,t3⟩,a0,a1,n1⟩:=KK.out _ _ S3;by_cases hn1:n=1
  ·subst hn1;have HF:=search_c nc N HP b ak2 ck2 15 0 ar u w3 o3 rb lv ls (emE ls t ar u s) okb hN2 HLS.out hnc (by omega) (by omega) (by omega) (by omega) (Q2.step S3 not0).sb (g3.ks.trans HKS.out) (by have:=g3.mes;omega) (g3.dp hd) (XC.step S3 not0) E3;rw[exN_out] at HF;clear HC HP;go_wp2_with (first|(go_at_call 128;refine HF.mono ?_;rintro z w4 ⟨rfl,⟨o4,E4,S4⟩,g4⟩))
   go_end0
   exact⟨rfl,⟨o4,by simpa [qua] using E4,((S0.trans S2).trans S3).trans S4⟩,by simpa [qua] using (g3.trans g4).le (by omega)⟩
  by_cases hn2:n=2
  ·subst hn2;have HF:=search_c nc N HP b ak2 ck2 14 1 ar u w3 o3 rb lv ls (emE ls t ar u s) okb hN2 HLS.out hnc (by omega) (by omega) (by omega) (by omega) (Q2.step S3 not0).sb (g3.ks.trans HKS.out) (by have:=g3.mes;omega) (g3.dp hd) (XC.step S3 not0) E3;rw[exN_out] at HF;clear HC HP;go_wp2_with (first|(go_at_call 128;refine HF.mono ?_;rintro z w4 ⟨rfl,⟨o4,E4,S4⟩,g4⟩))
   go_end0
   exact⟨rfl,⟨o4,by simpa [qua] using E4,((S0.trans S2).trans S3).trans S4⟩,by simpa [qua] using (g3.trans g4).le (by omega)⟩
  by_cases hn3:n=3
  ·subst hn3;have HL:=constant_c 0 1 ar u w3 o3 rb lv ls (emE ls t ar u s) (by omega) (by omega) (by omega) (g3.dp hd) (by have:=g3.mes;omega) (XC.step S3 not0) E3;go_upto_region 10 with (first|(go_at_call 74;refine HL.mono ?_;rintro z w4 ⟨rfl,o4,E4,S4⟩))
   have g4:=g3.trans (gr_con (emE ls t ar u s) 0 1 u (by omega));have S24:=S3.trans S4;have S24d:=S24.trans ((Step.refl I17 w4 o4).drew);have HO:=fun w'=>over_e ar u 1 w' (by omega) (by omega);have HGt:∀ w5,Below w4.drew.heap.size w4.drew w5->_:=fun w5 B5=>gather_c nc N HP 130 #[pt0 g,pt0 (g+2)] (fun g x=>((x.lay 14 g 0).con 1 1 (u+1)).lay 6 0 0) 4 _ (CxQ.keeps _ _ _ _ _ _ _ _ _ _ _ _ _ _ _ _ _) ent_q1 b ak2 ck2 ar (u+1) w5 o4 rb lv ls ((cl_q1 rb g (g+2) ar u lv ls (by omega)).mono (fun _ _ h=>⟨h.bw,h.ba⟩)) ((emE ls t ar u s).con 0 1 u) okb hN2 HLS.out hnc (by omega) (by omega) ((Q2.step S24d not0).step (Step.ofBelow (I:=fun _=>False) o4 B5) id).sb (g4.ks.trans HKS.out) (by have:=g4.mes;omega) (g4.dp hd) ((XC.step S24d not0).below B5) ((E4.step ((Step.refl (fun _=>False) w4 o4).drew) noF).below B5) ((Q2.step S24d not0).step (Step.ofBelow (I:=fun _=>False) o4 B5) id);clear HC HP HL c0 t0 t1 t2 t3 a0 a1 n1;obtain⟨c0,⟨t0,t1,t2,t3⟩,a0,a1,n1⟩:=KK.out _ _ S24;obtain⟨e0,⟨f0,f1,f2,f3⟩,h0,h1,h2⟩:=KK.out _ _ S24d;go_region_held3 (fun wx=>wx.cell? ⟨g,0,none⟩=some (pt0 rb)/\(wx.cell? ⟨gb,0,none⟩=some (.int .i64 b.k)/\wx.cell? ⟨gb,1,none⟩=some (.int .i64 b.n)/\wx.cell? ⟨gb,2,none⟩=some (stv b.nm)/\wx.cell? ⟨gb,3,none⟩=some (.slice ak2 b.kids.len ck2))/\wx.cell? ⟨g+2,0,none⟩=some (.int .i64 (ar:Nat))/\wx.cell? ⟨g+2,1,none⟩=some (.int .i64 (u:Nat))) (go_keep) (first|(go_at_call 84;refine(HO _).mono ?_;rintro z w5 ⟨rfl,B5⟩;have S25:=S24d.trans (Step.ofBelow (I:=I17) o4 B5);obtain⟨e0,⟨f0,f1,f2,f3⟩,h0,h1,h2⟩:=KK.out _ _ S25;have HF:=HGt w5 B5;rw[exN_out] at HF)|(go_at_call 129;refine HF.mono ?_;rintro z w6 ⟨rfl,⟨o6,E6,S6⟩,g6⟩;obtain⟨e0,⟨f0,f1,f2,f3⟩,h0,h1,h2⟩:=KK.out _ _ (S25.trans S6)))
   all_goals
    go_wp2
    go_end0
    exact⟨rfl,⟨o6,by simpa [qua] using E6,((S0.trans S2).trans S25).trans S6⟩,by simpa [qua] using (g4.trans g6).le (by omega)⟩
  by_cases hn4:n=4
  ·subst hn4;have HL:=constant_c 0 1 ar u w3 o3 rb lv ls (emE ls t ar u s) (by omega) (by omega) (by omega) (g3.dp hd) (by have:=g3.mes;omega) (XC.step S3 not0) E3;go_upto_region 13 with (first|(go_at_call 74;refine HL.mono ?_;rintro z w4 ⟨rfl,o4,E4,S4⟩))
   have g4:=g3.trans (gr_con (emE ls t ar u s) 0 1 u (by omega));have S24:=S3.trans S4;have S24d:=S24.trans ((Step.refl I17 w4 o4).drew);have HO:=fun w'=>over_e ar u 1 w' (by omega) (by omega);have HGt:∀ w5,Below w4.drew.heap.size w4.drew w5->_:=fun w5 B5=>gather_c nc N HP 131 #[pt0 g] (fun _ x=>x.lay 6 0 0) 4 _ (CxQ.keeps _ _ _ _ _ _ _ _ _ _ _ _ _ _ _ _ _) ent_q2 b ak2 ck2 ar (u+1) w5 o4 rb lv ls ((cl_q2 rb g lv ls).mono (fun _ _ h=>h.bw)) ((emE ls t ar u s).con 0 1 u) okb hN2 HLS.out hnc (by omega) (by omega) ((Q2.step S24d not0).step (Step.ofBelow (I:=fun _=>False) o4 B5) id).sb (g4.ks.trans HKS.out) (by have:=g4.mes;omega) (g4.dp hd) ((XC.step S24d not0).below B5) ((E4.step ((Step.refl (fun _=>False) w4 o4).drew) noF).below B5) ((Q2.step S24d not0).step (Step.ofBelow (I:=fun _=>False) o4 B5) id);clear HC HP HL c0 t0 t1 t2 t3 a0 a1 n1;obtain⟨c0,⟨t0,t1,t2,t3⟩,a0,a1,n1⟩:=KK.out _ _ S24;obtain⟨e0,⟨f0,f1,f2,f3⟩,h0,h1,h2⟩:=KK.out _ _ S24d;go_region_held3 (fun wx=>wx.cell? ⟨g,0,none⟩=some (pt0 rb)/\(wx.cell? ⟨gb,0,none⟩=some (.int .i64 b.k)/\wx.cell? ⟨gb,1,none⟩=some (.int .i64 b.n)/\wx.cell? ⟨gb,2,none⟩=some (stv b.nm)/\wx.cell? ⟨gb,3,none⟩=some (.slice ak2 b.kids.len ck2))/\wx.cell? ⟨g+2,0,none⟩=some (.int .i64 (ar:Nat))/\wx.cell? ⟨g+2,1,none⟩=some (.int .i64 (u:Nat))) (go_keep) (first|(go_at_call 84;refine(HO _).mono ?_;rintro z w5 ⟨rfl,B5⟩;have S25:=S24d.trans (Step.ofBelow (I:=I17) o4 B5);obtain⟨e0,⟨f0,f1,f2,f3⟩,h0,h1,h2⟩:=KK.out _ _ S25;have HF:=HGt w5 B5;rw[exN_out] at HF)|(go_at_call 129;refine HF.mono ?_;rintro z w6 ⟨rfl,⟨o6,E6,S6⟩,g6⟩;obtain⟨e0,⟨f0,f1,f2,f3⟩,h0,h1,h2⟩:=KK.out _ _ (S25.trans S6)))
   all_goals
    go_wp2
    go_end0
    exact⟨rfl,⟨o6,by simpa [qua] using E6,((S0.trans S2).trans S25).trans S6⟩,by simpa [qua] using (g4.trans g6).le (by omega)⟩
  have hn56:n=5\/n=6:=by omega
  rcases hn56 with hn5|hn5
  ·subst hn5;have HL:=constant_c 0 1 ar u w3 o3 rb lv ls (emE ls t ar u s) (by omega) (by omega) (by omega) (g3.dp hd) (by have:=g3.mes;omega) (XC.step S3 not0) E3;go_upto_region 17 with (first|(go_at_call 74;refine HL.mono ?_;rintro z w4 ⟨rfl,o4,E4,S4⟩))
   have g4:=g3.trans (gr_con (emE ls t ar u s) 0 1 u (by omega));have S24:=S3.trans S4;have S24d:=S24.trans ((Step.refl I17 w4 o4).drew);have HO:=fun w'=>over_e ar u 1 w' (by omega) (by omega);have HO2:=fun w'=>over_e ar u 2 w' (by omega) (by omega);have HK:∀ w5,Below w4.drew.heap.size w4.drew w5->Calls Tryz.prog 74 #[.pointer (some ⟨rb,0,none⟩),.int .i64 0,.int .i64 2,spV ar (u+1)] w5 (PosE w5 o4 rb lv (((emE ls t ar u s).con 0 1 u).con 0 2 (u+1)) (.tuple #[])):=fun w5 B5=>constant_c 0 2 ar (u+1) w5 o4 rb lv ls ((emE ls t ar u s).con 0 1 u) (by omega) (by omega) (by omega) (g4.dp hd) (by have:=g4.mes;omega) ((XC.step S24d not0).below B5) ((E4.step ((Step.refl (fun _=>False) w4 o4).drew) noF).below B5);clear HL c0 t0 t1 t2 t3 a0 a1 n1;obtain⟨c0,⟨t0,t1,t2,t3⟩,a0,a1,n1⟩:=KK.out _ _ S24;obtain⟨e0,⟨f0,f1,f2,f3⟩,h0,h1,h2⟩:=KK.out _ _ S24d;go_region_held3 (fun wx=>wx.cell? ⟨g,0,none⟩=some (pt0 rb)/\wx.cell? ⟨g+2,0,none⟩=some (.int .i64 (ar:Nat))/\wx.cell? ⟨g+2,1,none⟩=some (.int .i64 (u:Nat))) (go_keep) (first|(go_at_call 84;refine(HO _).mono ?_;rintro z w5 ⟨rfl,B5⟩;have S25:=S24d.trans (Step.ofBelow (I:=I17) o4 B5);obtain⟨e0,⟨f0,f1,f2,f3⟩,h0,h1,h2⟩:=KK.out _ _ S25;have HF:=HK w5 B5)|(go_at_call 74;refine HF.mono ?_;rintro z w6 ⟨rfl,o6,E6,S6⟩;obtain⟨e0,⟨f0,f1,f2,f3⟩,h0,h1,h2⟩:=KK.out _ _ (S25.trans S6)))
   all_goals
    have S26:=S25.trans S6;have S26d:=S26.trans ((Step.refl I17 w6 o6).drew);have g6:=g4.trans (gr_con ((emE ls t ar u s).con 0 1 u) 0 2 (u+1) (by omega));have HGt:∀ w7,Below w6.drew.heap.size w6.drew w7->_:=fun w7 B7=>gather_c nc N HP 132 #[pt0 g,pt0 (g+1)] (fun _ x=>x.lay 26 (5-5:Int).toNat 0) 4 _ (CxQ.keeps _ _ _ _ _ _ _ _ _ _ _ _ _ _ _ _ _) ent_q3 b ak2 ck2 ar (u+2) w7 o6 rb lv ls ((cl_q3 rb g (g+1) ⟨21,5,nm,a,Fs.ex t (Fs.ex b .nil)⟩ (some ⟨b0,off,none⟩) cap lv ls (by simp)).mono (fun _ _ h=>⟨h.bw,h.bn⟩)) (((emE ls t ar u s).con 0 1 u).con 0 2 (u+1)) okb hN2 HLS.out hnc (by omega) (by omega) ((Q2.step S26d not0).step (Step.ofBelow (I:=fun _=>False) o6 B7) id).sb (g6.ks.trans HKS.out) (by have:=g6.mes;omega) (g6.dp hd) ((XC.step S26d not0).below B7) ((E6.step ((Step.refl (fun _=>False) w6 o6).drew) noF).below B7) ((Q2.step S26d not0).step (Step.ofBelow (I:=fun _=>False) o6 B7) id);clear HK HF HO c0 t0 t1 t2 t3 a0 a1 n1 e0 f0 f1 f2 f3 h0 h1 h2;obtain⟨c0,⟨t0,t1,t2,t3⟩,a0,a1,n1⟩:=KK.out _ _ S26;obtain⟨e0,⟨f0,f1,f2,f3⟩,h0,h1,h2⟩:=KK.out _ _ S26d;go_upto_region 18 with fail;go_region_held3 (fun wx=>wx.cell? ⟨g,0,none⟩=some (pt0 rb)/\(wx.cell? ⟨gb,0,none⟩=some (.int .i64 b.k)/\wx.cell? ⟨gb,1,none⟩=some (.int .i64 b.n)/\wx.cell? ⟨gb,2,none⟩=some (stv b.nm)/\wx.cell? ⟨gb,3,none⟩=some (.slice ak2 b.kids.len ck2))/\wx.cell? ⟨g+2,0,none⟩=some (.int .i64 (ar:Nat))/\wx.cell? ⟨g+2,1,none⟩=some (.int .i64 (u:Nat))) (go_keep) (first|(go_at_call 84;refine(HO2 _).mono ?_;rintro z w7 ⟨rfl,B7⟩;have S27:=S26d.trans (Step.ofBelow (I:=I17) o6 B7);obtain⟨e0,⟨f0,f1,f2,f3⟩,h0,h1,h2⟩:=KK.out _ _ S27;have HF:=HGt w7 B7;rw[exN_out] at HF)|(go_at_call 129;refine HF.mono ?_;rintro z w8 ⟨rfl,⟨o8,E8,S8⟩,g8⟩;obtain⟨e0,⟨f0,f1,f2,f3⟩,h0,h1,h2⟩:=KK.out _ _ (S27.trans S8)))
    all_goals
     have S28:=S27.trans S8;have g18:=g6.trans g8;have HL:=lay_c 27 0 0 w8 o8 rb lv ls (gath ls (emE ls b) (fun _ x=>x.lay 26 (5-5:Int).toNat 0) ar (u+2) (((emE ls t ar u s).con 0 1 u).con 0 2 (u+1))) (by omega) (by omega) (by omega) (by have:=g18.mes;omega) (XC.step S28 not0) E8;clear HGt HF HO2;go_wp2_with (first|(go_at_call 41;refine HL.mono ?_;rintro z w9 ⟨rfl,o9,E9,S9⟩))
     go_end0
     exact⟨rfl,⟨o9,by simpa [qua] using E9,((S0.trans S2).trans S28).trans S9⟩,by simpa [qua] using (g18.trans (gr_lay _ 27 0 0)).le (by omega)⟩
  ·subst hn5;have HL:=constant_c 0 1 ar u w3 o3 rb lv ls (emE ls t ar u s) (by omega) (by omega) (by omega) (g3.dp hd) (by have:=g3.mes;omega) (XC.step S3 not0) E3;go_upto_region 17 with (first|(go_at_call 74;refine HL.mono ?_;rintro z w4 ⟨rfl,o4,E4,S4⟩))
   have g4:=g3.trans (gr_con (emE ls t ar u s) 0 1 u (by omega));have S24:=S3.trans S4;have S24d:=S24.trans ((Step.refl I17 w4 o4).drew);have HO:=fun w'=>over_e ar u 1 w' (by omega) (by omega);have HO2:=fun w'=>over_e ar u 2 w' (by omega) (by omega);have HK:∀ w5,Below w4.drew.heap.size w4.drew w5->Calls Tryz.prog 74 #[.pointer (some ⟨rb,0,none⟩),.int .i64 0,.int .i64 2,spV ar (u+1)] w5 (PosE w5 o4 rb lv (((emE ls t ar u s).con 0 1 u).con 0 2 (u+1)) (.tuple #[])):=fun w5 B5=>constant_c 0 2 ar (u+1) w5 o4 rb lv ls ((emE ls t ar u s).con 0 1 u) (by omega) (by omega) (by omega) (g4.dp hd) (by have:=g4.mes;omega) ((XC.step S24d not0).below B5) ((E4.step ((Step.refl (fun _=>False) w4 o4).drew) noF).below B5);clear HL c0 t0 t1 t2 t3 a0 a1 n1;obtain⟨c0,⟨t0,t1,t2,t3⟩,a0,a1,n1⟩:=KK.out _ _ S24;obtain⟨e0,⟨f0,f1,f2,f3⟩,h0,h1,h2⟩:=KK.out _ _ S24d;go_region_held3 (fun wx=>wx.cell? ⟨g,0,none⟩=some (pt0 rb)/\wx.cell? ⟨g+2,0,none⟩=some (.int .i64 (ar:Nat))/\wx.cell? ⟨g+2,1,none⟩=some (.int .i64 (u:Nat))) (go_keep) (first|(go_at_call 84;refine(HO _).mono ?_;rintro z w5 ⟨rfl,B5⟩;have S25:=S24d.trans (Step.ofBelow (I:=I17) o4 B5);obtain⟨e0,⟨f0,f1,f2,f3⟩,h0,h1,h2⟩:=KK.out _ _ S25;have HF:=HK w5 B5)|(go_at_call 74;refine HF.mono ?_;rintro z w6 ⟨rfl,o6,E6,S6⟩;obtain⟨e0,⟨f0,f1,f2,f3⟩,h0,h1,h2⟩:=KK.out _ _ (S25.trans S6)))
   all_goals
    have S26:=S25.trans S6;have S26d:=S26.trans ((Step.refl I17 w6 o6).drew);have g6:=g4.trans (gr_con ((emE ls t ar u s).con 0 1 u) 0 2 (u+1) (by omega));have HGt:∀ w7,Below w6.drew.heap.size w6.drew w7->_:=fun w7 B7=>gather_c nc N HP 132 #[pt0 g,pt0 (g+1)] (fun _ x=>x.lay 26 (6-5:Int).toNat 0) 4 _ (CxQ.keeps _ _ _ _ _ _ _ _ _ _ _ _ _ _ _ _ _) ent_q3 b ak2 ck2 ar (u+2) w7 o6 rb lv ls ((cl_q3 rb g (g+1) ⟨21,6,nm,a,Fs.ex t (Fs.ex b .nil)⟩ (some ⟨b0,off,none⟩) cap lv ls (by simp)).mono (fun _ _ h=>⟨h.bw,h.bn⟩)) (((emE ls t ar u s).con 0 1 u).con 0 2 (u+1)) okb hN2 HLS.out hnc (by omega) (by omega) ((Q2.step S26d not0).step (Step.ofBelow (I:=fun _=>False) o6 B7) id).sb (g6.ks.trans HKS.out) (by have:=g6.mes;omega) (g6.dp hd) ((XC.step S26d not0).below B7) ((E6.step ((Step.refl (fun _=>False) w6 o6).drew) noF).below B7) ((Q2.step S26d not0).step (Step.ofBelow (I:=fun _=>False) o6 B7) id);clear HK HF HO c0 t0 t1 t2 t3 a0 a1 n1 e0 f0 f1 f2 f3 h0 h1 h2;obtain⟨c0,⟨t0,t1,t2,t3⟩,a0,a1,n1⟩:=KK.out _ _ S26;obtain⟨e0,⟨f0,f1,f2,f3⟩,h0,h1,h2⟩:=KK.out _ _ S26d;go_upto_region 18 with fail;go_region_held3 (fun wx=>wx.cell? ⟨g,0,none⟩=some (pt0 rb)/\(wx.cell? ⟨gb,0,none⟩=some (.int .i64 b.k)/\wx.cell? ⟨gb,1,none⟩=some (.int .i64 b.n)/\wx.cell? ⟨gb,2,none⟩=some (stv b.nm)/\wx.cell? ⟨gb,3,none⟩=some (.slice ak2 b.kids.len ck2))/\wx.cell? ⟨g+2,0,none⟩=some (.int .i64 (ar:Nat))/\wx.cell? ⟨g+2,1,none⟩=some (.int .i64 (u:Nat))) (go_keep) (first|(go_at_call 84;refine(HO2 _).mono ?_;rintro z w7 ⟨rfl,B7⟩;have S27:=S26d.trans (Step.ofBelow (I:=I17) o6 B7);obtain⟨e0,⟨f0,f1,f2,f3⟩,h0,h1,h2⟩:=KK.out _ _ S27;have HF:=HGt w7 B7;rw[exN_out] at HF)|(go_at_call 129;refine HF.mono ?_;rintro z w8 ⟨rfl,⟨o8,E8,S8⟩,g8⟩;obtain⟨e0,⟨f0,f1,f2,f3⟩,h0,h1,h2⟩:=KK.out _ _ (S27.trans S8)))
    all_goals
     have S28:=S27.trans S8;have g18:=g6.trans g8;have HL:=lay_c 27 0 0 w8 o8 rb lv ls (gath ls (emE ls b) (fun _ x=>x.lay 26 (6-5:Int).toNat 0) ar (u+2) (((emE ls t ar u s).con 0 1 u).con 0 2 (u+1))) (by omega) (by omega) (by omega) (by have:=g18.mes;omega) (XC.step S28 not0) E8;clear HGt HF HO2;go_wp2_with (first|(go_at_call 41;refine HL.mono ?_;rintro z w9 ⟨rfl,o9,E9,S9⟩))
     go_end0
     exact⟨rfl,⟨o9,by simpa [qua] using E9,((S0.trans S2).trans S28).trans S9⟩,by simpa [qua] using (g18.trans (gr_lay _ 27 0 0)).le (by omega)⟩
theorem ent_p1:Ent 80:=fun _ _=>by kernel_rfl
theorem ent_p2:Ent 81:=fun _ _=>by kernel_rfl
theorem gr_push (s:Em)(op a b u:Nat)(hu:u<=1000000000):Grw s (s.push op a b u) 1:=⟨by rw[Em.mes_push];omega,by simp[Em.push],rfl,fun h=>by show max s.dp (u+1)<=_;omega⟩
theorem gr_kc (s:Em)(n:Int):Grw s (s.kc n) 1:=⟨s.mes_kc n,Nat.le_refl _,rfl,id⟩
theorem doc_nm {k n:Int}{nm:List UInt8}{len:Nat}(h:docF k n nm len=true):nm.length<=12:=by
 have hk:=docF_kind h;unfold docF at h;rcases hk with rfl|rfl|rfl|rfl|rfl|rfl|rfl|rfl|rfl|rfl|rfl|rfl|rfl|rfl|rfl|rfl|rfl|rfl|rfl|rfl|rfl|rfl|rfl|rfl|rfl
 all_goals first
 | (simp at h;have h2:nm=[]:=(by first|exact h.1|exact h.2.1|exact h.2.2.1|exact h.2|exact h);rw[h2];simp;done)
 | (
  simp at h;have h2:=h.2.2;unfold nameB at h2;split at h2
  ·cases h2
  ·simp only[Bool.and_eq_true,decide_eq_true_eq] at h2;simp;omega)
theorem app_exE:∀ (d:Fs) (y:Ex) (r:Fs),d.app (Fs.ex y r)=(d.snoc y).app r
 | ⟨none⟩,y,r=>rfl
 | ⟨some ⟨k,n,nm,a,ks,t⟩⟩,y,r=>by
  have h:=app_exE t y r;simp only[Fs.app,Fs.snoc] at h ⊢;rw[h]
theorem okF_app {nc:Nat}:∀ {d r:Fs},okF nc (d.app r)->okF nc r
 | ⟨none⟩,r,h=>h
 | ⟨some ⟨k,n,nm,a,ks,t⟩⟩,r,h=>okF_app (d:=t) h.2.2
theorem len_size:∀ (f:Fs),f.len<=f.size
 | ⟨none⟩=>Nat.le_refl _
 | ⟨some ⟨k,n,nm,a,ks,r⟩⟩=>by have:=len_size r;simp only[Fs.len,Fs.size];omega
abbrev Bx (w:World)(g rb:Nat)(k n:Int)(nm:List UInt8)(sl:Value)(ar u:Nat):Prop:=w.cell? ⟨g,0,none⟩=some (pt0 rb)/\(w.cell? ⟨g+1,0,none⟩=some (.int .i64 k)/\w.cell? ⟨g+1,1,none⟩=some (.int .i64 n)/\w.cell? ⟨g+1,2,none⟩=some (stv nm)/\w.cell? ⟨g+1,3,none⟩=some sl)/\w.cell? ⟨g+2,0,none⟩=some (.int .i64 (ar:Nat))/\w.cell? ⟨g+2,1,none⟩=some (.int .i64 (u:Nat))
theorem epart_step (nc N:Nat)(ih:EPart nc N):EPart nc (N+1):=by
 intro e ao cap ar u w o rb lv ls s hN hoe hls hnc S hks hm hu har hd X h;obtain⟨k,n,nm,a,ks⟩:=e;have hok:=hoe.2;have hdl:=doc_len hoe.1.1;simp only at hN hok hdl S hm hu har;rw[exN_out];simp only;by_cases h1:k=1
 ·subst h1;have hv:emE ls ⟨1,n,nm,a,ks⟩ ar u s=s.con n 1 u:=by simp[emE,prt]
  rw[hv];have hke:kdE ⟨1,n,nm,a,ks⟩=1:=by simp[kdE,kdN]
  obtain⟨g,hg⟩:∃g,g=w.heap.size:=⟨_,rfl⟩
  obtain⟨w1,hw1⟩:∃w1,w1=((w.alloc (.cells #[pt0 rb] 82)).alloc (.cells #[.int .i64 1,.int .i64 n,stv nm,.slice ao ks.len cap] 34)).alloc (.cells #[.int .i64 (ar:Nat),.int .i64 (u:Nat)] 86):=⟨_,rfl⟩
  obtain⟨z1,z2,z3,z4,z5⟩:=al3 w (.cells #[pt0 rb] 82) (.cells #[.int .i64 1,.int .i64 n,stv nm,.slice ao ks.len cap] 34) (.cells #[.int .i64 (ar:Nat),.int .i64 (u:Nat)] 86);rw[<-hw1,<-hg] at z1 z2 z3 z4 z5;have s0:∀ {I:Nat->Prop},Step I w o w1 (newLab w o 0):=fun {I}=>stepN o (by rw[<-hg];exact z5);have hnl:∀ j,newLab w o 0 (g+j)=0:=fun j=>newLab_new (by omega);have SN1:=S.stepO (s0 (I:=fun _=>False)) id;have E1:=h.step (s0 (I:=fun _=>False)) noF;have X1:=X.step (s0 (I:=fun _=>False)) id;have S0:=s0 (I:=I17);have b1w:Blk w1 (newLab w o 0) 0 g (.cells #[pt0 rb] 82):=⟨z1,hnl 0⟩
  have b1n:Blk w1 (newLab w o 0) 0 (g+1) (.cells #[.int .i64 1,.int .i64 n,stv nm,.slice ao ks.len cap] 34):=⟨z2,hnl 1⟩
  have b1a:Blk w1 (newLab w o 0) 0 (g+2) (.cells #[.int .i64 (ar:Nat),.int .i64 (u:Nat)] 86):=⟨z3,hnl 2⟩
  generalize newLab w o 0=o1 at *;have HG:=Lib.hid hg;have KK:Hid (∀ w' o',Step I17 w1 o1 w' o'->Bx w' g rb 1 n nm (.slice ao ks.len cap) ar u):=fun w' o' S=>⟨cell1e (b1w.step S not0).1,(cells4e (b1n.step S not0).1).1,(spot_box (b1a.step S not0).1).1,(spot_box (b1a.step S not0).1).2⟩;obtain⟨c0,⟨m0,m1,m2,m3⟩,a0,a1⟩:=KK.out _ _ (Step.refl I17 w1 o1);obtain⟨d0,⟨f0,f1,f2,f3⟩,e0,e1⟩:=KK.out _ _ ((Step.refl I17 w1 o1).drew);have SD:Step I17 w1 o1 w1.drew o1:=(Step.refl _ w1 o1).drew;have dF:Step (fun _=>False) w1 o1 w1.drew o1:=(Step.refl _ w1 o1).drew;have HKS:=Lib.hid hks;have HLS:=Lib.hid hls;clear s0 hnl z1 z2 z3 z4 z5 h X S hg hks hls hdl;have HK:=kindOf_c nc (ks.size+1) ⟨1,n,nm,a,ks⟩ ao cap w1.drew (by show ks.size < _;omega) hoe (SN1.stepO dF id).all;rw[exN_out,hke] at HK;simp only at HK;have HC:∀ w2,Below w1.drew.heap.size w1.drew w2->Calls Tryz.prog 74 #[.pointer (some ⟨rb,0,none⟩),.int .i64 n,.int .i64 1,spV ar u] w2 (PosE w2 o1 rb lv (s.con n 1 u) (.tuple #[])):=fun w2 B=>constant_c n 1 ar u w2 o1 rb lv ls s hoe.1.2.2.2 (by omega) (by omega) hd (by omega) ((X1.step dF id).below B) ((E1.step dF noF).below B);clear hv hke b1w b1n b1a SN1 E1 hok;go_enter Tryz.func40,Tryz.ntmps40;go_upto_region 1 with fail;rw[<-hw1,<-HG.out];clear hw1;go_upto_region 10 with fail;go_region_held3 (fun wx=>wx.cell? ⟨g,0,none⟩=some (pt0 rb)/\(wx.cell? ⟨g+1,0,none⟩=some (.int .i64 1)/\wx.cell? ⟨g+1,1,none⟩=some (.int .i64 n)/\wx.cell? ⟨g+1,2,none⟩=some (stv nm)/\wx.cell? ⟨g+1,3,none⟩=some (.slice ao ks.len cap))/\wx.cell? ⟨g+2,0,none⟩=some (.int .i64 (ar:Nat))/\wx.cell? ⟨g+2,1,none⟩=some (.int .i64 (u:Nat))) (go_keep) (first|(go_at_call 75;refine HK.mono ?_;rintro z w2 ⟨rfl,B2⟩;have S2:=SD.trans (Step.ofBelow (I:=I17) o1 B2);obtain⟨d0,⟨f0,f1,f2,f3⟩,e0,e1⟩:=KK.out _ _ S2;have HF:=HC w2 B2)|(go_at_call 74;refine HF.mono ?_;rintro z w3 ⟨rfl,o3,E3,S3⟩;obtain⟨d0,⟨f0,f1,f2,f3⟩,e0,e1⟩:=KK.out _ _ (S2.trans S3)))
  all_goals
   go_wp2
   go_end0
   exact⟨rfl,⟨o3,E3,(S0.trans S2).trans S3⟩,(gr_con s n 1 u (by omega)).le (by omega)⟩
 by_cases h2:k=2
 ·subst h2;have hv:emE ls ⟨2,n,nm,a,ks⟩ ar u s=s.con n 2 u:=by simp[emE,prt]
  rw[hv];have hke:kdE ⟨2,n,nm,a,ks⟩=2:=by simp[kdE,kdN]
  obtain⟨g,hg⟩:∃g,g=w.heap.size:=⟨_,rfl⟩
  obtain⟨w1,hw1⟩:∃w1,w1=((w.alloc (.cells #[pt0 rb] 82)).alloc (.cells #[.int .i64 2,.int .i64 n,stv nm,.slice ao ks.len cap] 34)).alloc (.cells #[.int .i64 (ar:Nat),.int .i64 (u:Nat)] 86):=⟨_,rfl⟩
  obtain⟨z1,z2,z3,z4,z5⟩:=al3 w (.cells #[pt0 rb] 82) (.cells #[.int .i64 2,.int .i64 n,stv nm,.slice ao ks.len cap] 34) (.cells #[.int .i64 (ar:Nat),.int .i64 (u:Nat)] 86);rw[<-hw1,<-hg] at z1 z2 z3 z4 z5;have s0:∀ {I:Nat->Prop},Step I w o w1 (newLab w o 0):=fun {I}=>stepN o (by rw[<-hg];exact z5);have hnl:∀ j,newLab w o 0 (g+j)=0:=fun j=>newLab_new (by omega);have SN1:=S.stepO (s0 (I:=fun _=>False)) id;have E1:=h.step (s0 (I:=fun _=>False)) noF;have X1:=X.step (s0 (I:=fun _=>False)) id;have S0:=s0 (I:=I17);have b1w:Blk w1 (newLab w o 0) 0 g (.cells #[pt0 rb] 82):=⟨z1,hnl 0⟩
  have b1n:Blk w1 (newLab w o 0) 0 (g+1) (.cells #[.int .i64 2,.int .i64 n,stv nm,.slice ao ks.len cap] 34):=⟨z2,hnl 1⟩
  have b1a:Blk w1 (newLab w o 0) 0 (g+2) (.cells #[.int .i64 (ar:Nat),.int .i64 (u:Nat)] 86):=⟨z3,hnl 2⟩
  generalize newLab w o 0=o1 at *;have HG:=Lib.hid hg;have KK:Hid (∀ w' o',Step I17 w1 o1 w' o'->Bx w' g rb 2 n nm (.slice ao ks.len cap) ar u):=fun w' o' S=>⟨cell1e (b1w.step S not0).1,(cells4e (b1n.step S not0).1).1,(spot_box (b1a.step S not0).1).1,(spot_box (b1a.step S not0).1).2⟩;obtain⟨c0,⟨m0,m1,m2,m3⟩,a0,a1⟩:=KK.out _ _ (Step.refl I17 w1 o1);obtain⟨d0,⟨f0,f1,f2,f3⟩,e0,e1⟩:=KK.out _ _ ((Step.refl I17 w1 o1).drew);have SD:Step I17 w1 o1 w1.drew o1:=(Step.refl _ w1 o1).drew;have dF:Step (fun _=>False) w1 o1 w1.drew o1:=(Step.refl _ w1 o1).drew;have HKS:=Lib.hid hks;have HLS:=Lib.hid hls;clear s0 hnl z1 z2 z3 z4 z5 h X S hg hks hls hdl;have HK:=kindOf_c nc (ks.size+1) ⟨2,n,nm,a,ks⟩ ao cap w1.drew (by show ks.size < _;omega) hoe (SN1.stepO dF id).all;rw[exN_out,hke] at HK;simp only at HK;have HC:∀ w2,Below w1.drew.heap.size w1.drew w2->Calls Tryz.prog 74 #[.pointer (some ⟨rb,0,none⟩),.int .i64 n,.int .i64 2,spV ar u] w2 (PosE w2 o1 rb lv (s.con n 2 u) (.tuple #[])):=fun w2 B=>constant_c n 2 ar u w2 o1 rb lv ls s hoe.1.2.2.2 (by omega) (by omega) hd (by omega) ((X1.step dF id).below B) ((E1.step dF noF).below B);clear hv hke b1w b1n b1a SN1 E1 hok;go_enter Tryz.func40,Tryz.ntmps40;go_upto_region 1 with fail;rw[<-hw1,<-HG.out];clear hw1;go_upto_region 10 with fail;go_region_held3 (fun wx=>wx.cell? ⟨g,0,none⟩=some (pt0 rb)/\(wx.cell? ⟨g+1,0,none⟩=some (.int .i64 2)/\wx.cell? ⟨g+1,1,none⟩=some (.int .i64 n)/\wx.cell? ⟨g+1,2,none⟩=some (stv nm)/\wx.cell? ⟨g+1,3,none⟩=some (.slice ao ks.len cap))/\wx.cell? ⟨g+2,0,none⟩=some (.int .i64 (ar:Nat))/\wx.cell? ⟨g+2,1,none⟩=some (.int .i64 (u:Nat))) (go_keep) (first|(go_at_call 75;refine HK.mono ?_;rintro z w2 ⟨rfl,B2⟩;have S2:=SD.trans (Step.ofBelow (I:=I17) o1 B2);obtain⟨d0,⟨f0,f1,f2,f3⟩,e0,e1⟩:=KK.out _ _ S2;have HF:=HC w2 B2)|(go_at_call 74;refine HF.mono ?_;rintro z w3 ⟨rfl,o3,E3,S3⟩;obtain⟨d0,⟨f0,f1,f2,f3⟩,e0,e1⟩:=KK.out _ _ (S2.trans S3)))
  all_goals
   go_wp2
   go_end0
   exact⟨rfl,⟨o3,E3,(S0.trans S2).trans S3⟩,(gr_con s n 2 u (by omega)).le (by omega)⟩
 by_cases h3:k=3
 ·subst h3;have hv:emE ls ⟨3,n,nm,a,ks⟩ ar u s=(s.kc n).push 2 (s.cs.idxOf n) 0 u:=by simp[emE,prt]
  rw[hv];obtain⟨g,hg⟩:∃g,g=w.heap.size:=⟨_,rfl⟩
  obtain⟨w1,hw1⟩:∃w1,w1=((w.alloc (.cells #[pt0 rb] 82)).alloc (.cells #[.int .i64 3,.int .i64 n,stv nm,.slice ao ks.len cap] 34)).alloc (.cells #[.int .i64 (ar:Nat),.int .i64 (u:Nat)] 86):=⟨_,rfl⟩
  obtain⟨z1,z2,z3,z4,z5⟩:=al3 w (.cells #[pt0 rb] 82) (.cells #[.int .i64 3,.int .i64 n,stv nm,.slice ao ks.len cap] 34) (.cells #[.int .i64 (ar:Nat),.int .i64 (u:Nat)] 86);rw[<-hw1,<-hg] at z1 z2 z3 z4 z5;have s0:∀ {I:Nat->Prop},Step I w o w1 (newLab w o 0):=fun {I}=>stepN o (by rw[<-hg];exact z5);have hnl:∀ j,newLab w o 0 (g+j)=0:=fun j=>newLab_new (by omega);have SN1:=S.stepO (s0 (I:=fun _=>False)) id;have E1:=h.step (s0 (I:=fun _=>False)) noF;have X1:=X.step (s0 (I:=fun _=>False)) id;have S0:=s0 (I:=I17);have b1w:Blk w1 (newLab w o 0) 0 g (.cells #[pt0 rb] 82):=⟨z1,hnl 0⟩
  have b1n:Blk w1 (newLab w o 0) 0 (g+1) (.cells #[.int .i64 3,.int .i64 n,stv nm,.slice ao ks.len cap] 34):=⟨z2,hnl 1⟩
  have b1a:Blk w1 (newLab w o 0) 0 (g+2) (.cells #[.int .i64 (ar:Nat),.int .i64 (u:Nat)] 86):=⟨z3,hnl 2⟩
  generalize newLab w o 0=o1 at *;have HG:=Lib.hid hg;have KK:Hid (∀ w' o',Step I17 w1 o1 w' o'->Bx w' g rb 3 n nm (.slice ao ks.len cap) ar u):=fun w' o' S=>⟨cell1e (b1w.step S not0).1,(cells4e (b1n.step S not0).1).1,(spot_box (b1a.step S not0).1).1,(spot_box (b1a.step S not0).1).2⟩;obtain⟨c0,⟨m0,m1,m2,m3⟩,a0,a1⟩:=KK.out _ _ (Step.refl I17 w1 o1);obtain⟨d0,⟨f0,f1,f2,f3⟩,e0,e1⟩:=KK.out _ _ ((Step.refl I17 w1 o1).drew);have SD:Step I17 w1 o1 w1.drew o1:=(Step.refl _ w1 o1).drew;have dF:Step (fun _=>False) w1 o1 w1.drew o1:=(Step.refl _ w1 o1).drew;have HKS:=Lib.hid hks;have HLS:=Lib.hid hls;clear s0 hnl z1 z2 z3 z4 z5 h X S hg hks hls hdl;have HK:=place_c n w1.drew o1 rb lv ls s hoe.1.2.2.2 (by omega) (X1.step dF id) (E1.step dF noF);have hix:s.cs.idxOf n<=268435455:=by
   have:=List.idxOf_le_length (a:=n) (l:=s.cs)
   unfold Em.mes at hm;omega
  have gk:=gr_kc s n;have HC:∀ w2 o2,Step I17 w1.drew o1 w2 o2->EmW w2 o2 rb lv (s.kc n)->Calls Tryz.prog 76 #[.pointer (some ⟨rb,0,none⟩),.int .i64 2,.int .i64 (s.cs.idxOf n:Nat),.int .i64 0,spV ar u] w2 (PosE w2 o2 rb lv ((s.kc n).push 2 (s.cs.idxOf n) 0 u) (.tuple #[])):=fun w2 o2 S2 E2=>push_c 2 (s.cs.idxOf n) 0 ar u w2 o2 rb lv ls (s.kc n) (by omega) hix (by omega) (by omega) (gk.dp hd) (by have:=gk.mes;omega) ((X1.step dF id).step S2 not0) E2;clear hv b1w b1n b1a SN1 E1 hok;go_enter Tryz.func40,Tryz.ntmps40;go_upto_region 1 with fail;rw[<-hw1,<-HG.out];clear hw1;go_upto_region 12 with fail;go_region_held3 (fun wx=>wx.cell? ⟨g,0,none⟩=some (pt0 rb)/\wx.cell? ⟨g+1,1,none⟩=some (.int .i64 n)/\wx.cell? ⟨g+2,0,none⟩=some (.int .i64 (ar:Nat))/\wx.cell? ⟨g+2,1,none⟩=some (.int .i64 (u:Nat))) (go_keep) (first|(go_at_call 77;refine HK.mono ?_;rintro z w2 ⟨rfl,o2,E2,S2⟩;have S3:=SD.trans S2;obtain⟨d0,⟨f0,f1,f2,f3⟩,e0,e1⟩:=KK.out _ _ S3;have HF:=HC w2 o2 S2 E2)|(go_at_call 76;refine HF.mono ?_;rintro z w3 ⟨rfl,o3,E3,S4⟩;obtain⟨d0,⟨f0,f1,f2,f3⟩,e0,e1⟩:=KK.out _ _ (S3.trans S4)))
  all_goals
   go_wp2
   go_end0
   exact⟨rfl,⟨o3,E3,(S0.trans S3).trans S4⟩,(gk.trans (gr_push _ 2 _ 0 u (by omega))).le (by omega)⟩
 by_cases h5:k=5
 ·subst h5;have hn:=hdl.2.2.2.2.2.1 (Or.inl rfl);have hn3:n<=3:=hoe.1.2.1 rfl;obtain⟨n0,hn0⟩:∃n0:Nat,(n0:Int)=n:=⟨n.toNat,by omega⟩
  subst hn0;have hv:emE ls ⟨5,(n0:Int),nm,a,ks⟩ ar u s=s.push 3 n0 0 u:=by simp[emE,prt]
  rw[hv];obtain⟨g,hg⟩:∃g,g=w.heap.size:=⟨_,rfl⟩
  obtain⟨w1,hw1⟩:∃w1,w1=((w.alloc (.cells #[pt0 rb] 82)).alloc (.cells #[.int .i64 5,.int .i64 (n0:Int),stv nm,.slice ao ks.len cap] 34)).alloc (.cells #[.int .i64 (ar:Nat),.int .i64 (u:Nat)] 86):=⟨_,rfl⟩
  obtain⟨z1,z2,z3,z4,z5⟩:=al3 w (.cells #[pt0 rb] 82) (.cells #[.int .i64 5,.int .i64 (n0:Int),stv nm,.slice ao ks.len cap] 34) (.cells #[.int .i64 (ar:Nat),.int .i64 (u:Nat)] 86);rw[<-hw1,<-hg] at z1 z2 z3 z4 z5;have s0:∀ {I:Nat->Prop},Step I w o w1 (newLab w o 0):=fun {I}=>stepN o (by rw[<-hg];exact z5);have hnl:∀ j,newLab w o 0 (g+j)=0:=fun j=>newLab_new (by omega);have SN1:=S.stepO (s0 (I:=fun _=>False)) id;have E1:=h.step (s0 (I:=fun _=>False)) noF;have X1:=X.step (s0 (I:=fun _=>False)) id;have S0:=s0 (I:=I17);have b1w:Blk w1 (newLab w o 0) 0 g (.cells #[pt0 rb] 82):=⟨z1,hnl 0⟩
  have b1n:Blk w1 (newLab w o 0) 0 (g+1) (.cells #[.int .i64 5,.int .i64 (n0:Int),stv nm,.slice ao ks.len cap] 34):=⟨z2,hnl 1⟩
  have b1a:Blk w1 (newLab w o 0) 0 (g+2) (.cells #[.int .i64 (ar:Nat),.int .i64 (u:Nat)] 86):=⟨z3,hnl 2⟩
  generalize newLab w o 0=o1 at *;have HG:=Lib.hid hg;have KK:Hid (∀ w' o',Step I17 w1 o1 w' o'->Bx w' g rb 5 (n0:Int) nm (.slice ao ks.len cap) ar u):=fun w' o' S=>⟨cell1e (b1w.step S not0).1,(cells4e (b1n.step S not0).1).1,(spot_box (b1a.step S not0).1).1,(spot_box (b1a.step S not0).1).2⟩;obtain⟨c0,⟨m0,m1,m2,m3⟩,a0,a1⟩:=KK.out _ _ (Step.refl I17 w1 o1);obtain⟨d0,⟨f0,f1,f2,f3⟩,e0,e1⟩:=KK.out _ _ ((Step.refl I17 w1 o1).drew);have SD:Step I17 w1 o1 w1.drew o1:=(Step.refl _ w1 o1).drew;have dF:Step (fun _=>False) w1 o1 w1.drew o1:=(Step.refl _ w1 o1).drew;have HKS:=Lib.hid hks;have HLS:=Lib.hid hls;clear s0 hnl z1 z2 z3 z4 z5 h X S hg hks hls hdl;have HK:=push_c 3 n0 0 ar u w1 o1 rb lv ls s (by omega) (by omega) (by omega) (by omega) hd (by omega) X1 E1;clear hv b1w b1n b1a SN1 E1 hok;go_enter Tryz.func40,Tryz.ntmps40;go_upto_region 1 with fail;rw[<-hw1,<-HG.out];clear hw1;go_wp2_with (first|(go_at_call 76;refine HK.mono ?_;rintro z w3 ⟨rfl,o3,E3,S3⟩))
  go_end0
  exact⟨rfl,⟨o3,E3,S0.trans S3⟩,(gr_push s 3 n0 0 u (by omega)).le (by omega)⟩
 by_cases h17:k=17
 ·subst h17;have hl2:ks.len=2:=hdl.2.2.1 (by omega) (by omega);obtain⟨x,y,hks2⟩:=len_two hl2;subst hks2;simp only[esize_ex] at hN hm hu har;have hv:emE ls ⟨17,n,nm,a,Fs.ex x (Fs.ex y .nil)⟩ ar u s=(emE ls x ar u s).fork 14 (emE ls y ar u) (fun t=>t.con (0:Nat) 2 u):=by show prt ls 17 n nm _ (emE ls x::emE ls y::[]) ar u s=_;simp[prt]
  rw[hv];have hsz:(Fs.ex x (Fs.ex y .nil)).size=x.kids.size+y.kids.size+2:=by simp only[esize_ex,Fs.size]<;>omega
  rw[hsz];have hz0:Fs.nil.size=0:=rfl;rw[hz0] at hN hm hu har;obtain⟨g,hg⟩:∃g,g=w.heap.size:=⟨_,rfl⟩
  obtain⟨w1,hw1⟩:∃w1,w1=((w.alloc (.cells #[pt0 rb] 82)).alloc (.cells #[.int .i64 17,.int .i64 n,stv nm,.slice ao (Fs.ex x (Fs.ex y .nil)).len cap] 34)).alloc (.cells #[.int .i64 (ar:Nat),.int .i64 (u:Nat)] 86):=⟨_,rfl⟩
  obtain⟨z1,z2,z3,z4,z5⟩:=al3 w (.cells #[pt0 rb] 82) (.cells #[.int .i64 17,.int .i64 n,stv nm,.slice ao (Fs.ex x (Fs.ex y .nil)).len cap] 34) (.cells #[.int .i64 (ar:Nat),.int .i64 (u:Nat)] 86);rw[<-hw1,<-hg] at z1 z2 z3 z4 z5;have s0:∀ {I:Nat->Prop},Step I w o w1 (newLab w o 0):=fun {I}=>stepN o (by rw[<-hg];exact z5);have hnl:∀ j,newLab w o 0 (g+j)=0:=fun j=>newLab_new (by omega);have SN1:=S.stepO (s0 (I:=fun _=>False)) id;have E1:=h.step (s0 (I:=fun _=>False)) noF;have X1:=X.step (s0 (I:=fun _=>False)) id;have S0:=s0 (I:=I17);have b1w:Blk w1 (newLab w o 0) 0 g (.cells #[pt0 rb] 82):=⟨z1,hnl 0⟩
  have b1n:Blk w1 (newLab w o 0) 0 (g+1) (.cells #[.int .i64 17,.int .i64 n,stv nm,.slice ao (Fs.ex x (Fs.ex y .nil)).len cap] 34):=⟨z2,hnl 1⟩
  have b1a:Blk w1 (newLab w o 0) 0 (g+2) (.cells #[.int .i64 (ar:Nat),.int .i64 (u:Nat)] 86):=⟨z3,hnl 2⟩
  generalize newLab w o 0=o1 at *;have HG:=Lib.hid hg;have KK:Hid (∀ w' o',Step I17 w1 o1 w' o'->Bx w' g rb 17 n nm (.slice ao (Fs.ex x (Fs.ex y .nil)).len cap) ar u):=fun w' o' S=>⟨cell1e (b1w.step S not0).1,(cells4e (b1n.step S not0).1).1,(spot_box (b1a.step S not0).1).1,(spot_box (b1a.step S not0).1).2⟩;obtain⟨c0,⟨m0,m1,m2,m3⟩,a0,a1⟩:=KK.out _ _ (Step.refl I17 w1 o1);obtain⟨d0,⟨f0,f1,f2,f3⟩,e0,e1⟩:=KK.out _ _ ((Step.refl I17 w1 o1).drew);have SD:Step I17 w1 o1 w1.drew o1:=(Step.refl _ w1 o1).drew;have dF:Step (fun _=>False) w1 o1 w1.drew o1:=(Step.refl _ w1 o1).drew;have HKS:=Lib.hid hks;have HLS:=Lib.hid hls;clear s0 hnl z1 z2 z3 z4 z5 h X S hg hks hls hdl;have HK:=conn_c nc N ih 17 n nm a x y ao cap 14 0 ar u w1 o1 rb lv ls s (by omega) (by omega) hok (by omega) (by omega) HLS.out hnc (by omega) (by omega) SN1 HKS.out (by omega) hd X1 E1;rw[exN_out] at HK;simp only at HK;clear hv b1w b1n b1a SN1 E1 hok hl2 hsz hz0;go_enter Tryz.func40,Tryz.ntmps40;go_upto_region 1 with fail;rw[<-hw1,<-HG.out];clear hw1;go_wp2_with (first|(go_at_call 78;refine HK.mono ?_;rintro z w3 ⟨rfl,⟨o3,E3,S3⟩,g3⟩))
  go_end0
  exact⟨rfl,⟨o3,E3,S0.trans S3⟩,g3.le (by omega)⟩
 by_cases h18:k=18
 ·subst h18;have hl2:ks.len=2:=hdl.2.2.1 (by omega) (by omega);obtain⟨x,y,hks2⟩:=len_two hl2;subst hks2;simp only[esize_ex] at hN hm hu har;have hv:emE ls ⟨18,n,nm,a,Fs.ex x (Fs.ex y .nil)⟩ ar u s=(emE ls x ar u s).fork 15 (emE ls y ar u) (fun t=>t.con (1:Nat) 2 u):=by show prt ls 18 n nm _ (emE ls x::emE ls y::[]) ar u s=_;simp[prt]
  rw[hv];have hsz:(Fs.ex x (Fs.ex y .nil)).size=x.kids.size+y.kids.size+2:=by simp only[esize_ex,Fs.size]<;>omega
  rw[hsz];have hz0:Fs.nil.size=0:=rfl;rw[hz0] at hN hm hu har;obtain⟨g,hg⟩:∃g,g=w.heap.size:=⟨_,rfl⟩
  obtain⟨w1,hw1⟩:∃w1,w1=((w.alloc (.cells #[pt0 rb] 82)).alloc (.cells #[.int .i64 18,.int .i64 n,stv nm,.slice ao (Fs.ex x (Fs.ex y .nil)).len cap] 34)).alloc (.cells #[.int .i64 (ar:Nat),.int .i64 (u:Nat)] 86):=⟨_,rfl⟩
  obtain⟨z1,z2,z3,z4,z5⟩:=al3 w (.cells #[pt0 rb] 82) (.cells #[.int .i64 18,.int .i64 n,stv nm,.slice ao (Fs.ex x (Fs.ex y .nil)).len cap] 34) (.cells #[.int .i64 (ar:Nat),.int .i64 (u:Nat)] 86);rw[<-hw1,<-hg] at z1 z2 z3 z4 z5;have s0:∀ {I:Nat->Prop},Step I w o w1 (newLab w o 0):=fun {I}=>stepN o (by rw[<-hg];exact z5);have hnl:∀ j,newLab w o 0 (g+j)=0:=fun j=>newLab_new (by omega);have SN1:=S.stepO (s0 (I:=fun _=>False)) id;have E1:=h.step (s0 (I:=fun _=>False)) noF;have X1:=X.step (s0 (I:=fun _=>False)) id;have S0:=s0 (I:=I17);have b1w:Blk w1 (newLab w o 0) 0 g (.cells #[pt0 rb] 82):=⟨z1,hnl 0⟩
  have b1n:Blk w1 (newLab w o 0) 0 (g+1) (.cells #[.int .i64 18,.int .i64 n,stv nm,.slice ao (Fs.ex x (Fs.ex y .nil)).len cap] 34):=⟨z2,hnl 1⟩
  have b1a:Blk w1 (newLab w o 0) 0 (g+2) (.cells #[.int .i64 (ar:Nat),.int .i64 (u:Nat)] 86):=⟨z3,hnl 2⟩
  generalize newLab w o 0=o1 at *;have HG:=Lib.hid hg;have KK:Hid (∀ w' o',Step I17 w1 o1 w' o'->Bx w' g rb 18 n nm (.slice ao (Fs.ex x (Fs.ex y .nil)).len cap) ar u):=fun w' o' S=>⟨cell1e (b1w.step S not0).1,(cells4e (b1n.step S not0).1).1,(spot_box (b1a.step S not0).1).1,(spot_box (b1a.step S not0).1).2⟩;obtain⟨c0,⟨m0,m1,m2,m3⟩,a0,a1⟩:=KK.out _ _ (Step.refl I17 w1 o1);obtain⟨d0,⟨f0,f1,f2,f3⟩,e0,e1⟩:=KK.out _ _ ((Step.refl I17 w1 o1).drew);have SD:Step I17 w1 o1 w1.drew o1:=(Step.refl _ w1 o1).drew;have dF:Step (fun _=>False) w1 o1 w1.drew o1:=(Step.refl _ w1 o1).drew;have HKS:=Lib.hid hks;have HLS:=Lib.hid hls;clear s0 hnl z1 z2 z3 z4 z5 h X S hg hks hls hdl;have HK:=conn_c nc N ih 18 n nm a x y ao cap 15 1 ar u w1 o1 rb lv ls s (by omega) (by omega) hok (by omega) (by omega) HLS.out hnc (by omega) (by omega) SN1 HKS.out (by omega) hd X1 E1;rw[exN_out] at HK;simp only at HK;clear hv b1w b1n b1a SN1 E1 hok hl2 hsz hz0;go_enter Tryz.func40,Tryz.ntmps40;go_upto_region 1 with fail;rw[<-hw1,<-HG.out];clear hw1;go_wp2_with (first|(go_at_call 78;refine HK.mono ?_;rintro z w3 ⟨rfl,⟨o3,E3,S3⟩,g3⟩))
  go_end0
  exact⟨rfl,⟨o3,E3,S0.trans S3⟩,g3.le (by omega)⟩
 by_cases h19:k=19
 ·subst h19;have hl2:ks.len=3:=hdl.1 rfl;obtain⟨x,y,z,hks2⟩:=len_three hl2;subst hks2;simp only[esize_ex] at hN hm hu har;have hv:emE ls ⟨19,n,nm,a,Fs.ex x (Fs.ex y (Fs.ex z .nil))⟩ ar u s=(emE ls x ar u s).fork 14 (emE ls y ar u) (emE ls z ar u):=by show prt ls 19 n nm _ (emE ls x::emE ls y::emE ls z::[]) ar u s=_;simp[prt]
  rw[hv];have hsz:(Fs.ex x (Fs.ex y (Fs.ex z .nil))).size=x.kids.size+y.kids.size+z.kids.size+3:=by simp only[esize_ex,Fs.size]<;>omega
  rw[hsz];have hz0:Fs.nil.size=0:=rfl;rw[hz0] at hN hm hu har;have hlen:(Fs.ex x (Fs.ex y (Fs.ex z .nil))).len=3:=rfl;have hmf:∀ (fn:Fn) (first cap:Array Value) (w:World),(Instr.makeFunc fn first cap).run Tryz.prog w=.ok (.func fn first cap) w:=fun _ _ _ _=>rfl;obtain⟨g,hg⟩:∃g,g=w.heap.size:=⟨_,rfl⟩
  obtain⟨w1,hw1⟩:∃w1,w1=((w.alloc (.cells #[pt0 rb] 82)).alloc (.cells #[.int .i64 19,.int .i64 n,stv nm,.slice ao (Fs.ex x (Fs.ex y (Fs.ex z .nil))).len cap] 34)).alloc (.cells #[.int .i64 (ar:Nat),.int .i64 (u:Nat)] 86):=⟨_,rfl⟩
  obtain⟨z1,z2,z3,z4,z5⟩:=al3 w (.cells #[pt0 rb] 82) (.cells #[.int .i64 19,.int .i64 n,stv nm,.slice ao (Fs.ex x (Fs.ex y (Fs.ex z .nil))).len cap] 34) (.cells #[.int .i64 (ar:Nat),.int .i64 (u:Nat)] 86);rw[<-hw1,<-hg] at z1 z2 z3 z4 z5;have s0:∀ {I:Nat->Prop},Step I w o w1 (newLab w o 0):=fun {I}=>stepN o (by rw[<-hg];exact z5);have hnl:∀ j,newLab w o 0 (g+j)=0:=fun j=>newLab_new (by omega);have SN1:=S.stepO (s0 (I:=fun _=>False)) id;have E1:=h.step (s0 (I:=fun _=>False)) noF;have X1:=X.step (s0 (I:=fun _=>False)) id;have S0:=s0 (I:=I17);have b1w:Blk w1 (newLab w o 0) 0 g (.cells #[pt0 rb] 82):=⟨z1,hnl 0⟩
  have b1n:Blk w1 (newLab w o 0) 0 (g+1) (.cells #[.int .i64 19,.int .i64 n,stv nm,.slice ao (Fs.ex x (Fs.ex y (Fs.ex z .nil))).len cap] 34):=⟨z2,hnl 1⟩
  have b1a:Blk w1 (newLab w o 0) 0 (g+2) (.cells #[.int .i64 (ar:Nat),.int .i64 (u:Nat)] 86):=⟨z3,hnl 2⟩
  generalize newLab w o 0=o1 at *;have HG:=Lib.hid hg;have KK:Hid (∀ w' o',Step I17 w1 o1 w' o'->Bx w' g rb 19 n nm (.slice ao (Fs.ex x (Fs.ex y (Fs.ex z .nil))).len cap) ar u):=fun w' o' S=>⟨cell1e (b1w.step S not0).1,(cells4e (b1n.step S not0).1).1,(spot_box (b1a.step S not0).1).1,(spot_box (b1a.step S not0).1).2⟩;obtain⟨c0,⟨m0,m1,m2,m3⟩,a0,a1⟩:=KK.out _ _ (Step.refl I17 w1 o1);obtain⟨d0,⟨f0,f1,f2,f3⟩,e0,e1⟩:=KK.out _ _ ((Step.refl I17 w1 o1).drew);have SD:Step I17 w1 o1 w1.drew o1:=(Step.refl _ w1 o1).drew;have dF:Step (fun _=>False) w1 o1 w1.drew o1:=(Step.refl _ w1 o1).drew;have HKS:=Lib.hid hks;have HLS:=Lib.hid hls;clear s0 hnl z1 z2 z3 z4 z5 h X S hg hks hls hdl;obtain⟨b,off,ak,ck,rfl,-,Sy,NK⟩:=kidO (x:=.nil) SN1 0 rfl;have HC:=ih x ak ck ar u w1.drew o1 rb lv ls s (by omega) (okF_ex hok).1 HLS.out hnc (Sy.stepO dF id) HKS.out (by omega) (by omega) (by omega) hd (X1.step dF id) (E1.step dF noF);rw[exN_out] at HC;have CX:Hid (∀ w' o',Step I17 w1 o1 w' o'->Cx rb g (g+1) (g+2) 19 n nm (Fs.ex x (Fs.ex y (Fs.ex z .nil))) (some ⟨b,off,none⟩) cap ar u w' o'):=fun w' o' S=>⟨b1w.step S not0,b1n.step S not0,b1a.step S not0,SN1.stepO S not0⟩;have NN:Hid (∀ w' o',Step I17 w1 o1 w' o'->Nd4 w' b off x ak ck):=fun w' o' S=>NK S not0;have FK:∀ w2 o2 s2,Cx rb g (g+1) (g+2) 19 n nm (Fs.ex x (Fs.ex y (Fs.ex z .nil))) (some ⟨b,off,none⟩) cap ar u w2 o2->EmX w2 o2 lv ls->EmW w2 o2 rb lv s2->s2.mes+(300*(y.kids.size+1)+300*(z.kids.size+1)+2)<=100000000->s2.dp<=1000000001->s2.ks.length=ls.length->_:=fun w2 o2 s2 K2 X2 E2 hm2 hd2 hk2 =>
   fork_c 14 80 81 #[pt0 g,pt0 (g+1),pt0 (g+2)] #[pt0 g,pt0 (g+1),pt0 (g+2)] (emE ls y ar u) (emE ls z ar u) (300*(y.kids.size+1)) (300*(z.kids.size+1)) _ (Cx.keeps _ _ _ _ _ _ _ _ _ _ _ _) ent_p1 ent_p2 w2 o2 rb lv ls (cl_part1 nc N ih rb g (g+1) (g+2) 19 n nm x y z (some ⟨b,off,none⟩) cap ar u lv ls hok (by omega) HLS.out hnc (by omega) (by omega)) (cl_part2 nc N ih rb g (g+1) (g+2) 19 n nm x y z (some ⟨b,off,none⟩) cap ar u lv ls hok (by omega) HLS.out hnc (by omega) (by omega)) s2 (by omega) hm2 hd2 hk2 X2 E2 K2
  obtain⟨x0,x1,x2,x3⟩:=NN.out _ _ (Step.refl I17 w1 o1);obtain⟨y0,y1,y2,y3⟩:=NN.out _ _ SD;rw[hlen] at hw1 m3 f3 KK ⊢;clear hv b1w b1n b1a SN1 E1 hl2 hsz hz0 hlen Sy NK;go_enter Tryz.func40,Tryz.ntmps40;go_upto_region 1 with fail;rw[<-hw1,<-HG.out];clear hw1;go_upto_region 20 with fail;go_region_held3 (fun wx=>wx.cell? ⟨g,0,none⟩=some (pt0 rb)/\wx.cell? ⟨g+1,3,none⟩=some (.slice (some ⟨b,off,none⟩) 3 cap)/\(wx.cell? ⟨b,off,none⟩=some (.int .i64 x.k)/\wx.cell? ⟨b,off+1,none⟩=some (.int .i64 x.n)/\wx.cell? ⟨b,off+2,none⟩=some (stv x.nm)/\wx.cell? ⟨b,off+3,none⟩=some (.slice ak x.kids.len ck))/\wx.cell? ⟨g+2,0,none⟩=some (.int .i64 (ar:Nat))/\wx.cell? ⟨g+2,1,none⟩=some (.int .i64 (u:Nat))) (go_keep) (first|(go_at_call 40;refine HC.mono ?_;rintro z2 w2 ⟨rfl,⟨o2,E2,S2⟩,g2⟩;have S3:=SD.trans S2;obtain⟨d0,⟨f0,f1,f2,f3⟩,e0,e1⟩:=KK.out _ _ S3;obtain⟨y0,y1,y2,y3⟩:=NN.out _ _ S3))
  all_goals
   have HF:=FK w2 o2 _ (CX.out _ _ S3) (X1.step S3 not0) E2 (by have:=g2.mes;omega) (g2.dp hd) (g2.ks.trans HKS.out);clear FK HC KK CX NN;go_wp2_with (first|(go_at_call 79;refine HF.mono ?_;rintro z2 w4 ⟨rfl,⟨o4,E4,S4⟩,g4⟩))
   go_end0
   exact⟨rfl,⟨o4,E4,(S0.trans S3).trans S4⟩,(g2.trans g4).le (by omega)⟩
 by_cases h26:k=26
 ·subst h26;have hl2:ks.len=1:=hdl.2.1 rfl;obtain⟨x,hks2⟩:=len_one hl2;subst hks2;simp only[esize_ex] at hN hm hu har;have hv:emE ls ⟨26,n,nm,a,Fs.ex x .nil⟩ ar u s=((emE ls x ar u ((s.cel n.toNat (kdE x)).lay 17 n.toNat 0)).lay 18 n.toNat 0).land s.ws.length:=by show prt ls 26 n nm (kdE x::[]) (emE ls x::[]) ar u s=_;simp[prt]
  rw[hv];have hsz:(Fs.ex x .nil).size=x.kids.size+1:=by simp only[esize_ex,Fs.size]<;>omega
  rw[hsz];have hz0:Fs.nil.size=0:=rfl;rw[hz0] at hN hm hu har;obtain⟨g,hg⟩:∃g,g=w.heap.size:=⟨_,rfl⟩
  obtain⟨w1,hw1⟩:∃w1,w1=((w.alloc (.cells #[pt0 rb] 82)).alloc (.cells #[.int .i64 26,.int .i64 n,stv nm,.slice ao (Fs.ex x .nil).len cap] 34)).alloc (.cells #[.int .i64 (ar:Nat),.int .i64 (u:Nat)] 86):=⟨_,rfl⟩
  obtain⟨z1,z2,z3,z4,z5⟩:=al3 w (.cells #[pt0 rb] 82) (.cells #[.int .i64 26,.int .i64 n,stv nm,.slice ao (Fs.ex x .nil).len cap] 34) (.cells #[.int .i64 (ar:Nat),.int .i64 (u:Nat)] 86);rw[<-hw1,<-hg] at z1 z2 z3 z4 z5;have s0:∀ {I:Nat->Prop},Step I w o w1 (newLab w o 0):=fun {I}=>stepN o (by rw[<-hg];exact z5);have hnl:∀ j,newLab w o 0 (g+j)=0:=fun j=>newLab_new (by omega);have SN1:=S.stepO (s0 (I:=fun _=>False)) id;have E1:=h.step (s0 (I:=fun _=>False)) noF;have X1:=X.step (s0 (I:=fun _=>False)) id;have S0:=s0 (I:=I17);have b1w:Blk w1 (newLab w o 0) 0 g (.cells #[pt0 rb] 82):=⟨z1,hnl 0⟩
  have b1n:Blk w1 (newLab w o 0) 0 (g+1) (.cells #[.int .i64 26,.int .i64 n,stv nm,.slice ao (Fs.ex x .nil).len cap] 34):=⟨z2,hnl 1⟩
  have b1a:Blk w1 (newLab w o 0) 0 (g+2) (.cells #[.int .i64 (ar:Nat),.int .i64 (u:Nat)] 86):=⟨z3,hnl 2⟩
  generalize newLab w o 0=o1 at *;have HG:=Lib.hid hg;have KK:Hid (∀ w' o',Step I17 w1 o1 w' o'->Bx w' g rb 26 n nm (.slice ao (Fs.ex x .nil).len cap) ar u):=fun w' o' S=>⟨cell1e (b1w.step S not0).1,(cells4e (b1n.step S not0).1).1,(spot_box (b1a.step S not0).1).1,(spot_box (b1a.step S not0).1).2⟩;obtain⟨c0,⟨m0,m1,m2,m3⟩,a0,a1⟩:=KK.out _ _ (Step.refl I17 w1 o1);obtain⟨d0,⟨f0,f1,f2,f3⟩,e0,e1⟩:=KK.out _ _ ((Step.refl I17 w1 o1).drew);have SD:Step I17 w1 o1 w1.drew o1:=(Step.refl _ w1 o1).drew;have dF:Step (fun _=>False) w1 o1 w1.drew o1:=(Step.refl _ w1 o1).drew;have HKS:=Lib.hid hks;have HLS:=Lib.hid hls;clear s0 hnl z1 z2 z3 z4 z5 h X S hg hks hls hdl;have HK:=cell_c nc N ih n nm a x ao cap ar u w1 o1 rb lv ls s hoe (by omega) HLS.out hnc (by omega) (by omega) SN1 HKS.out (by omega) hd X1 E1;rw[exN_out] at HK;simp only at HK;clear hv b1w b1n b1a SN1 E1 hok hl2 hsz hz0;go_enter Tryz.func40,Tryz.ntmps40;go_upto_region 1 with fail;rw[<-hw1,<-HG.out];clear hw1;go_wp2_with (first|(go_at_call 82;refine HK.mono ?_;rintro z w3 ⟨rfl,⟨o3,E3,S3⟩,g3⟩))
  go_end0
  exact⟨rfl,⟨o3,E3,S0.trans S3⟩,g3.le (by omega)⟩
 by_cases h21:k=21
 ·subst h21;obtain⟨hl2,hn⟩:=hdl.2.2.2.1 rfl;obtain⟨x,y,hks2⟩:=len_two hl2;subst hks2;simp only[esize_ex] at hN hm hu har;have hv:emE ls ⟨21,n,nm,a,Fs.ex x (Fs.ex y .nil)⟩ ar u s=qua ls n (emE ls x) (emE ls y) ar u s:=by show prt ls 21 n nm _ (emE ls x::emE ls y::[]) ar u s=_;simp[prt]
  rw[hv];have hsz:(Fs.ex x (Fs.ex y .nil)).size=x.kids.size+y.kids.size+2:=by simp only[esize_ex,Fs.size]<;>omega
  rw[hsz];have hz0:Fs.nil.size=0:=rfl;rw[hz0] at hN hm hu har;obtain⟨g,hg⟩:∃g,g=w.heap.size:=⟨_,rfl⟩
  obtain⟨w1,hw1⟩:∃w1,w1=((w.alloc (.cells #[pt0 rb] 82)).alloc (.cells #[.int .i64 21,.int .i64 n,stv nm,.slice ao (Fs.ex x (Fs.ex y .nil)).len cap] 34)).alloc (.cells #[.int .i64 (ar:Nat),.int .i64 (u:Nat)] 86):=⟨_,rfl⟩
  obtain⟨z1,z2,z3,z4,z5⟩:=al3 w (.cells #[pt0 rb] 82) (.cells #[.int .i64 21,.int .i64 n,stv nm,.slice ao (Fs.ex x (Fs.ex y .nil)).len cap] 34) (.cells #[.int .i64 (ar:Nat),.int .i64 (u:Nat)] 86);rw[<-hw1,<-hg] at z1 z2 z3 z4 z5;have s0:∀ {I:Nat->Prop},Step I w o w1 (newLab w o 0):=fun {I}=>stepN o (by rw[<-hg];exact z5);have hnl:∀ j,newLab w o 0 (g+j)=0:=fun j=>newLab_new (by omega);have SN1:=S.stepO (s0 (I:=fun _=>False)) id;have E1:=h.step (s0 (I:=fun _=>False)) noF;have X1:=X.step (s0 (I:=fun _=>False)) id;have S0:=s0 (I:=I17);have b1w:Blk w1 (newLab w o 0) 0 g (.cells #[pt0 rb] 82):=⟨z1,hnl 0⟩
  have b1n:Blk w1 (newLab w o 0) 0 (g+1) (.cells #[.int .i64 21,.int .i64 n,stv nm,.slice ao (Fs.ex x (Fs.ex y .nil)).len cap] 34):=⟨z2,hnl 1⟩
  have b1a:Blk w1 (newLab w o 0) 0 (g+2) (.cells #[.int .i64 (ar:Nat),.int .i64 (u:Nat)] 86):=⟨z3,hnl 2⟩
  generalize newLab w o 0=o1 at *;have HG:=Lib.hid hg;have KK:Hid (∀ w' o',Step I17 w1 o1 w' o'->Bx w' g rb 21 n nm (.slice ao (Fs.ex x (Fs.ex y .nil)).len cap) ar u):=fun w' o' S=>⟨cell1e (b1w.step S not0).1,(cells4e (b1n.step S not0).1).1,(spot_box (b1a.step S not0).1).1,(spot_box (b1a.step S not0).1).2⟩;obtain⟨c0,⟨m0,m1,m2,m3⟩,a0,a1⟩:=KK.out _ _ (Step.refl I17 w1 o1);obtain⟨d0,⟨f0,f1,f2,f3⟩,e0,e1⟩:=KK.out _ _ ((Step.refl I17 w1 o1).drew);have SD:Step I17 w1 o1 w1.drew o1:=(Step.refl _ w1 o1).drew;have dF:Step (fun _=>False) w1 o1 w1.drew o1:=(Step.refl _ w1 o1).drew;have HKS:=Lib.hid hks;have HLS:=Lib.hid hls;clear s0 hnl z1 z2 z3 z4 z5 h X S hg hks hls hdl;have HK:=quant_c nc N ih n nm a x y ao cap ar u w1 o1 rb lv ls s hn hok (by omega) (by omega) HLS.out hnc (by omega) (by omega) SN1 HKS.out (by omega) hd X1 E1;rw[exN_out] at HK;simp only at HK;clear hv b1w b1n b1a SN1 E1 hok hl2 hsz hz0;go_enter Tryz.func40,Tryz.ntmps40;go_upto_region 1 with fail;rw[<-hw1,<-HG.out];clear hw1;go_wp2_with (first|(go_at_call 83;refine HK.mono ?_;rintro z w3 ⟨rfl,⟨o3,E3,S3⟩,g3⟩))
  go_end0
  exact⟨rfl,⟨o3,E3,S0.trans S3⟩,g3.le (by omega)⟩
 have hopk:opK k:=by
  have hkk:=docF_kind hoe.1.1;simp only at hkk;unfold opK;omega
 have hv:emE ls ⟨k,n,nm,a,ks⟩ ar u s=opr k n nm (kdF ks) (seqT (emF ls ks) 0 ar u s):=by
  show prt ls k n nm (kdF ks) (emF ls ks) ar u s=_;unfold prt;rw[if_neg h1,if_neg h2,if_neg h3,if_neg h5,if_neg h17,if_neg h18,if_neg h19,if_neg h26,if_neg h21]
 rw[hv];obtain⟨W,hW⟩:∃W,W=seqT (emF ls ks) 0 ar u s:=⟨_,rfl⟩
 rw[<-hW];have HW:=Lib.hid hW;clear hW hv;obtain⟨g,hg⟩:∃g,g=w.heap.size:=⟨_,rfl⟩
 obtain⟨w1,hw1⟩:∃w1,w1=((w.alloc (.cells #[pt0 rb] 82)).alloc (.cells #[.int .i64 k,.int .i64 n,stv nm,.slice ao ks.len cap] 34)).alloc (.cells #[.int .i64 (ar:Nat),.int .i64 (u:Nat)] 86):=⟨_,rfl⟩
 obtain⟨z1,z2,z3,z4,z5⟩:=al3 w (.cells #[pt0 rb] 82) (.cells #[.int .i64 k,.int .i64 n,stv nm,.slice ao ks.len cap] 34) (.cells #[.int .i64 (ar:Nat),.int .i64 (u:Nat)] 86);rw[<-hw1,<-hg] at z1 z2 z3 z4 z5;have s0:∀ {I:Nat->Prop},Step I w o w1 (newLab w o 0):=fun {I}=>stepN o (by rw[<-hg];exact z5);have hnl:∀ j,newLab w o 0 (g+j)=0:=fun j=>newLab_new (by omega);have SN1:=S.stepO (s0 (I:=fun _=>False)) id;have E1:=h.step (s0 (I:=fun _=>False)) noF;have X1:=X.step (s0 (I:=fun _=>False)) id;have S0:=s0 (I:=I17);have b1w:Blk w1 (newLab w o 0) 0 g (.cells #[pt0 rb] 82):=⟨z1,hnl 0⟩
 have b1n:Blk w1 (newLab w o 0) 0 (g+1) (.cells #[.int .i64 k,.int .i64 n,stv nm,.slice ao ks.len cap] 34):=⟨z2,hnl 1⟩
 have b1a:Blk w1 (newLab w o 0) 0 (g+2) (.cells #[.int .i64 (ar:Nat),.int .i64 (u:Nat)] 86):=⟨z3,hnl 2⟩
 generalize newLab w o 0=o1 at *;have HG:=Lib.hid hg;have KK:Hid (∀ w' o',Step I17 w1 o1 w' o'->Bx w' g rb k n nm (.slice ao ks.len cap) ar u):=fun w' o' S=>⟨cell1e (b1w.step S not0).1,(cells4e (b1n.step S not0).1).1,(spot_box (b1a.step S not0).1).1,(spot_box (b1a.step S not0).1).2⟩;obtain⟨c0,⟨m0,m1,m2,m3⟩,a0,a1⟩:=KK.out _ _ (Step.refl I17 w1 o1);obtain⟨d0,⟨f0,f1,f2,f3⟩,e0,e1⟩:=KK.out _ _ ((Step.refl I17 w1 o1).drew);have SD:Step I17 w1 o1 w1.drew o1:=(Step.refl _ w1 o1).drew;have dF:Step (fun _=>False) w1 o1 w1.drew o1:=(Step.refl _ w1 o1).drew;have HKS:=Lib.hid hks;have HLS:=Lib.hid hls;clear s0 hnl z1 z2 z3 z4 z5 h X S hg hks hls hdl;have hlz:=len_size ks;have hnmz:=doc_nm hoe.1.1;simp only at hnmz;clear d0 f0 f1 f2 f3 e0 e1 b1w b1n b1a;have HOE:=Lib.hid hoe;have HOK:=Lib.hid hok;clear hoe hok;have hb1:(k==1)=false:=by simpa using h1
 have hb2:(k==2)=false:=by simpa using h2
 have hb3:(k==3)=false:=by simpa using h3
 have hb5:(k==5)=false:=by simpa using h5
 have hb17:(k==17)=false:=by simpa using h17
 have hb18:(k==18)=false:=by simpa using h18
 have hb19:(k==19)=false:=by simpa using h19
 have hb26:(k==26)=false:=by simpa using h26
 have hb21:(k==21)=false:=by simpa using h21
 clear h1 h2 h3 h5 h17 h18 h19 h26 h21;go_enter Tryz.func40,Tryz.ntmps40;go_upto_region 1 with fail;rw[<-hw1,<-HG.out];clear hw1;go_wp2_with fail;go_loopw [13] (fun vi wr=>∃(d r:Fs) (s':Em) (o':Nat->Nat),Hid (ks=d.app r)/\vi=.int .i64 (d.len:Nat)/\EmW wr o' rb lv s'/\Step I17 w1 o1 wr o'/\Grw s s' (300*d.size)/\Hid (W=seqT (emF ls r) d.len ar u s')) (fun vi _=>ks.len-(intOf vi).toNat)
 case atStart=>exact⟨.nil,ks,s,o1,rfl,by show _=Value.int .i64 ((0:Nat):Int);rfl,E1,Step.refl _ _ _,⟨by simp,Nat.le_refl _,rfl,id⟩,HW⟩
 case round =>
  clear HW E1 c0 m0 m1 m2 m3 a0 a1;obtain⟨d,r,s',o',HK,rfl,E2,S2,g2,HW⟩:=hrel;obtain⟨c0,⟨m0,m1,m2,m3⟩,a0,a1⟩:=KK.out _ _ S2;have hlk:ks.len=d.len+r.len:=by rw[HK.out,Fs.len_app]
  have hsk:ks.size=d.size+r.size:=by rw[HK.out,Fs.size_app]
  have hld:=len_size d;cases r using Fs.on with
  | nil =>
   have hkI:¬(d.len:Int)<(ks.len:Int):=by simp only[Fs.len] at hlk;omega
   have HW2:W=s':=HW.out;subst HW2;have HO:=operation_c nc ⟨k,n,nm,a,ks⟩ ao cap wr o' rb lv ls W hopk HOE.out (SN1.stepO S2 not0) (by show ks.len<=_;omega) (by show nm.length<=maxLen;unfold maxLen;omega) (by have:=g2.mes;simp only[Fs.size] at hsk;omega) (X1.step S2 not0) E2;rw[exN_out] at HO;simp only at HO;have hsd:d.size<=ks.size:=by omega
   clear HW HK hlk hsk hld hlz KK;go_wp2_with (first|(go_at_call 85;refine HO.mono ?_;rintro z w3 ⟨rfl,⟨o3,E3,S3⟩,g3⟩))
   go_end0
   exact⟨rfl,⟨o3,E3,(S0.trans S2).trans S3⟩,(g2.trans g3).le (by omega)⟩
  | cons kk kn km ka kks kr =>
   obtain⟨y,hy⟩:∃y:Ex,y=⟨kk,kn,km,ka,kks⟩:=⟨_,rfl⟩
   have hcy:Fs.cons kk kn km ka kks kr=Fs.ex y kr:=by rw[hy];rfl
   rw[hcy] at HK HW hlk hsk;have hly:(Fs.ex y kr).len=kr.len+1:=rfl;rw[hly] at hlk;rw[esize_ex] at hsk;have oky:okE nc y:=by
    have h0:=HOK.out;rw[HK.out] at h0;exact(okF_ex (okF_app h0)).1
   have SNk:=SN1.stepO S2 not0;rw[HK.out] at SNk;obtain⟨b,off,ak,ck,rfl,NN,Sy,NK⟩:=kidO (x:=d) SNk d.len rfl;obtain⟨x0,x1,x2,x3⟩:=NN;have hkI:(d.len:Int)<(ks.len:Int):=by omega
   obtain⟨w3,hw3⟩:∃w3,w3=wr.alloc (.cells (nodeC y ak ck) 34):=⟨_,rfl⟩
   obtain⟨gy,hgy⟩:∃gy,gy=wr.heap.size:=⟨_,rfl⟩
   have s3:∀ {I:Nat->Prop},Step I wr o' w3 (newLab wr o' 0):=fun {I}=>stepN o' (by rw[hw3];exact b1 _ _);have B3:Blk w3 (newLab wr o' 0) 0 gy (.cells (nodeC y ak ck) 34):=by rw[hw3,hgy];exact⟨heap_alloc_new _ _,newLab_new (Nat.le_refl _)⟩
   have E3:=E2.step (s3 (I:=fun _=>False)) noF;have S3:=S2.trans (s3 (I:=I17));have Sy3:=Sy.stepO (s3 (I:=fun _=>False)) id;generalize newLab wr o' 0=o3 at *;have S3d:=S3.trans ((Step.refl I17 w3 o3).drew);have HOv:=fun w'=>over_e ar u d.len w' (by omega) (by omega);have HC:∀ w4,Below w3.drew.heap.size w3.drew w4->_:=fun w4 B4=>ih y ak ck ar (u+d.len) w4 o3 rb lv ls s' (by omega) oky HLS.out hnc ((Sy3.stepO ((Step.refl (fun _=>False) w3 o3).drew) id).stepO (Step.ofBelow (I:=fun _=>False) o3 B4) id) (g2.ks.trans HKS.out) (by have:=g2.mes;omega) (by omega) (by omega) (g2.dp hd) ((X1.step S3d not0).below B4) ((E3.step ((Step.refl (fun _=>False) w3 o3).drew) noF).below B4);have KY:Hid (∀ w' o2,Step I17 w3 o3 w' o2->(w'.cell? ⟨g,0,none⟩=some (pt0 rb)/\w'.cell? ⟨g+2,0,none⟩=some (.int .i64 (ar:Nat))/\w'.cell? ⟨g+2,1,none⟩=some (.int .i64 (u:Nat)))/\w'.cell? ⟨gy,0,none⟩=some (.int .i64 y.k)/\w'.cell? ⟨gy,1,none⟩=some (.int .i64 y.n)/\w'.cell? ⟨gy,2,none⟩=some (stv y.nm)/\w'.cell? ⟨gy,3,none⟩=some (.slice ak y.kids.len ck)):=fun w' o2 S=>by
    obtain⟨q0,-,q1,q2⟩:=KK.out _ _ (S3.trans S);exact⟨⟨q0,q1,q2⟩,(cells4e (B3.step S not0).1).1⟩
   have HWn:Hid (W=seqT (emF ls kr) (d.len+1) ar u (emE ls y ar (u+d.len) s')):=HW;have HKn:Hid (ks=(d.snoc y).app kr):=by show _=_;rw[HK.out,app_exE]
   have hdn:(d.snoc y).len=d.len+1:=Fs.len_snoc d y;have hds:(d.snoc y).size=d.size+(y.kids.size+1):=by unfold Fs.snoc;rw[Fs.size_app];rfl
   have HDN:=Lib.hid hdn;have HDS:=Lib.hid hds;have HGY:=Lib.hid hgy;have HLK:=Lib.hid hlk;have HSK:=Lib.hid hsk;clear s3 hy hcy hly SNk NK Sy hgy B3 HW HK E2 hdn hds hlk hsk;go_upto_region 5 with fail;rw[<-hw3,<-HGY.out];clear hw3;obtain⟨⟨i0,i1,i2⟩,j0,j1,j2,j3⟩:=KY.out _ _ (Step.refl I17 w3 o3);obtain⟨⟨k0,k1,k2⟩,l0,l1,l2,l3⟩:=KY.out _ _ ((Step.refl I17 w3 o3).drew);clear x0 x1 x2 x3 c0 m0 m1 m2 m3 a0 a1;go_region_held3 (fun wx=>wx.cell? ⟨g,0,none⟩=some (pt0 rb)/\(wx.cell? ⟨gy,0,none⟩=some (.int .i64 y.k)/\wx.cell? ⟨gy,1,none⟩=some (.int .i64 y.n)/\wx.cell? ⟨gy,2,none⟩=some (stv y.nm)/\wx.cell? ⟨gy,3,none⟩=some (.slice ak y.kids.len ck))/\wx.cell? ⟨g+2,0,none⟩=some (.int .i64 (ar:Nat))/\wx.cell? ⟨g+2,1,none⟩=some (.int .i64 (u:Nat))) (go_keep) (first|(go_at_call 84;refine(HOv _).mono ?_;rintro z w4 ⟨rfl,B4⟩;have S4:=((Step.refl I17 w3 o3).drew).trans (Step.ofBelow (I:=I17) o3 B4);obtain⟨⟨k0,k1,k2⟩,l0,l1,l2,l3⟩:=KY.out _ _ S4;have HF:=HC w4 B4;rw[exN_out] at HF)|(go_at_call 40;refine HF.mono ?_;rintro z w5 ⟨rfl,⟨o5,E5,S5⟩,g5⟩;obtain⟨⟨k0,k1,k2⟩,l0,l1,l2,l3⟩:=KY.out _ _ (S4.trans S5)))
   all_goals
    clear HC HF HOv;go_wp2;go_roundw
    case rel=>(try ((repeat apply Exists.intro);refine⟨?_,rfl⟩));exact⟨d.snoc y,kr,_,o5,HKn,by rw[HDN.out];go_num,E5,(S3.trans S4).trans S5,by rw[HDS.out];exact(g2.trans g5).le (by omega),by rw[HDN.out];exact HWn⟩
    case measure=>have hlk:=HLK.out;simp[intOf];omega
theorem part_all (nc:Nat):∀ N,EPart nc N
 | 0=>fun e ao cap ar u w o rb lv ls s h=>by omega
 | N+1=>epart_step nc N (part_all nc N)
theorem repeat1_c (w:World)(b off c n:Nat)(hn:n<=100000)(hb:b<w.heap.size)(hc:w.cell? ⟨b,off,none⟩=some (.int .i64 1)) :
  Calls Tryz.prog 73 #[.slice (some ⟨b,off,none⟩) 1 c,.int .i64 (n:Nat)] w fun x w'=>∃g,x=.returned (.slice (some ⟨g,0,none⟩) n n)/\w.heap.size<=g/\w'.heap[g]?=some (.cells (List.replicate n (Value.int .i64 1)).toArray 3 (0,0))/\Below w.heap.size w w':=by
 obtain⟨ii,hii,hzi0,hzi1,hzi2⟩:=info_parts infoInt3;have mk:∀ w:World,(Instr.makeSlice 35 (.int .i64 (n:Nat)) (.int .i64 (n:Nat))).run Tryz.prog w=.ok (.slice (some ⟨w.heap.size,0,none⟩) n n) (w.alloc (.cells (madeCells (Value.int .i64 0).cells (n*1)) 3)):=fun w=>by
  have:=run_make (P:=Tryz.prog) w 35 3 ii _ Tryz.underlying35 hii hzi0 .i64 .i64 n n (by omega) (Int.le_refl _) (by rw[hzi2];omega) (by omega)
  rw[hzi1] at this;simpa only[Int.toNat_natCast] using this
 obtain⟨X,hX,hXl⟩:∃X:List Value,madeCells (Value.int .i64 0).cells (n*1)=X.toArray/\X.length=n:=⟨(madeCells (Value.int .i64 0).cells (n*1)).toList,by simp,by simp[madeCells,Value.cells]⟩
 rw[hX] at mk;have B0:Below w.heap.size w (w.alloc (.cells X.toArray 3)):=(Below.refl _ w).alloc (Nat.le_refl _) _;have E0:(w.alloc (.cells X.toArray 3)).heap[w.heap.size]?=some (.cells X.toArray 3 (0,0)):=heap_alloc_new w _;have c0:=(B0.cell (p:=⟨b,off,none⟩) hb).trans hc;have m1:=fun w=>mul_c n hn w;clear hX hc;go_enter Tryz.func73,Tryz.ntmps73;go_wp2_with fail;refine(m1 _).mono ?_;rintro z w1 ⟨rfl,rfl⟩;go_upto_region 7 with fail;generalize w1.alloc (.cells X.toArray 3)=w0 at *;obtain⟨g,hg⟩:∃g,g=w1.heap.size:=⟨_,rfl⟩
 rw[<-hg] at E0 ⊢;have HG:Hid (g=w1.heap.size):=hg;have hgs:(Tryz.prog.info? 3).map (·.size)=some 1:=by rw[hii];simp[hzi1]
 obtain⟨cs,hcs⟩:∃cs,cs=List.replicate (min 1 n) (Value.int .i64 1):=⟨_,rfl⟩
 have hcl:cs.length=min 1 n:=by rw[hcs];simp
 have hcv:∀ j v,cs[j]?=some v->j=0/\v=Value.int .i64 1:=by
  intro j v hv;rw[hcs,List.getElem?_replicate] at hv;split at hv
  ·injection hv with hv
   exact⟨by omega,hv.symm⟩
  ·cases hv
 have hca:∀ j,j<cs.length->cs[j]?=some (Value.int .i64 1):=by
  intro j hj;rw[hcs,List.getElem?_replicate];rw[hcl] at hj;rw[if_pos hj]
 clear hcs hg;obtain⟨w2,hr2,hg2,hb2⟩:=run_splice (P:=Tryz.prog) (w:=w0) 35 35 3 3 Tryz.underlying35 hgs (some ⟨g,0,none⟩) (some ⟨b,off,none⟩) n n 1 c g 0 X 3 E0 cs (by rw[hcl]) (fun _=>⟨rfl,_,rfl,fun j v hv=>by obtain⟨rfl,rfl⟩:=hcv j v hv;exact c0⟩) (by omega) (fun v hv=>by obtain⟨j,hj,h2⟩:=List.mem_iff_getElem.1 hv;rw[(hcv j v (by rw[List.getElem?_eq_getElem hj,h2])).2];rfl);have hlen2:(splice X 0 cs).length=n:=by rw[length_splice _ _ _ (by omega)];exact hXl
 have hat2:Hid (∀ j,j<0+cs.length->(splice X 0 cs)[j]?=some (Value.int .i64 1)):=lay_at (fun j hj=>absurd hj (Nat.not_lt_zero _)) hca (by omega);generalize splice X 0 cs=Y at *;have hgl:Hid (g=w1.heap.size):=HG;have B2:Below w1.heap.size w1 w2:=B0.trans (by rw[<-HG.out];exact hb2);have hk1:Hid (min 1 n<=n/\(0<n->0<min 1 n)):=⟨by omega,by omega⟩
 rw[hcl,Nat.zero_add] at hat2;have hgi:goInt cs.length=.int .i64 (min 1 n:Nat):=by rw[hcl];rfl
 rw[hgi] at hr2;generalize min 1 n=k1 at *;have h2:=lt_of_block hg2;clear E0 c0 hca hcv B0 hb2 hgi;go_wp2;go_loopw [8] (fun v wr=>∃(k:Nat) (Y:List Value),k<=n/\v=.int .i64 (k:Nat)/\(0<n->0<k)/\Y.length=n/\Hid (∀ j,j<k->Y[j]?=some (Value.int .i64 1))/\wr.heap[g]?=some (.cells Y.toArray 3 (0,0))/\Below w1.heap.size w1 wr) (fun v _=>n-(intOf v).toNat)
 case atStart=>exact⟨k1,Y,hk1.out.1,rfl,hk1.out.2,hlen2,hat2,hg2,B2⟩
 case round =>
  clear hk1 hlen2 hat2 hg2 B2 hr2 hcl h2;obtain⟨k,Y,hk,rfl,hk0,hyl,hat,E1,B1⟩:=hrel;by_cases hlt:k<n
  ·have hkI:(k:Int)<(n:Int):=by omega
   have bdT:Below wr.heap.size wr wr.drew:=⟨rfl,rfl,rfl,Nat.le_refl _,fun _ _=>rfl⟩
   have Ed:wr.drew.heap[g]?=some (.cells Y.toArray 3 (0,0)):=E1;obtain⟨ds,hds⟩:∃ds,ds=List.replicate (min k (n-k)) (Value.int .i64 1):=⟨_,rfl⟩
   have hdl:ds.length=min k (n-k):=by rw[hds];simp
   have hda:∀ j,j<ds.length->ds[j]?=some (Value.int .i64 1):=by
    intro j hj;rw[hds,List.getElem?_replicate];rw[hdl] at hj;rw[if_pos hj]
   have hdv:∀ j v,ds[j]?=some v->j<k/\v=Value.int .i64 1:=by
    intro j v hv;rw[hds,List.getElem?_replicate] at hv;split at hv
    ·injection hv with hv
     exact⟨by omega,hv.symm⟩
    ·cases hv
   clear hds;obtain⟨w3,hr3,hg3,hb3⟩:=run_splice (P:=Tryz.prog) (w:=wr.drew) 35 35 3 3 Tryz.underlying35 hgs (some ⟨g,k,none⟩) (some ⟨g,0,none⟩) (n-k) (n-k) k n g k Y 3 Ed ds (by rw[hdl]) (fun _=>⟨rfl,_,rfl,fun j v hv=>by
    obtain⟨hj,rfl⟩:=hdv j v hv;have ea:(Addr.add ⟨g,0,none⟩ j)=⟨g,j,none⟩:=by simp[Addr.add];exact fun h=>h.symm
    rw[ea,cell_of_row _ _ _ _ _ _ Ed];simpa using hat.out j hj⟩) (by omega) (fun v hv=>by obtain⟨j,hj,h2⟩:=List.mem_iff_getElem.1 hv;rw[(hdv j v (by rw[List.getElem?_eq_getElem hj,h2])).2];rfl)
   have hlen3:(splice Y k ds).length=n:=by rw[length_splice _ _ _ (by omega)];exact hyl
   have hat3:Hid (∀ j,j<k+ds.length->(splice Y k ds)[j]?=some (Value.int .i64 1)):=lay_at hat.out hda (by omega);generalize splice Y k ds=Y3 at *;have B3:Below w1.heap.size w1 w3:=(B1.trans (bdT.mono B1.size)).trans (by rw[<-HG.out];exact hb3);rw[hdl] at hat3;have hgi:goInt ds.length=.int .i64 (min k (n-k):Nat):=by rw[hdl];rfl
   rw[hgi] at hr3;have hpos:0<min k (n-k):=by have:=hk0 (by omega);omega
   have hle:k+min k (n-k)<=n:=by omega
   generalize min k (n-k)=d at *;clear hat hda hdv hdl hgi E1 hyl Ed;go_wp2_with fail;go_region;go_wp2;go_roundw
   case rel=>exact⟨k+d,Y3,hle,by simp,fun _=>by omega,hlen3,hat3,hg3,B3⟩
   case measure=>simp[intOf];omega
  ·have hkI:¬(k:Int)<(n:Int):=by omega
   have HR:Hid (∃g',Ending.returned (.slice (some ⟨g,0,none⟩) n n)=Ending.returned (.slice (some ⟨g',0,none⟩) n n)/\w1.heap.size<=g'/\wr.heap[g']?=some (.cells (List.replicate n (Value.int .i64 1)).toArray 3 (0,0))/\Below w1.heap.size w1 wr):=by
    have hY:Y=List.replicate n (Value.int .i64 1):=by
     apply List.ext_getElem?;intro j;rw[List.getElem?_replicate];by_cases hj:j<n
     ·rw[if_pos hj];exact hat.out j (by omega)
     ·rw[if_neg hj];exact List.getElem?_eq_none (by omega)
    exact⟨g,rfl,by rw[HG.out];exact Nat.le_refl _,by rw[<-hY];exact E1,B1⟩
   clear hat E1 hyl B1;go_wp2;go_ret;exact HR.out
theorem keepP_num {cells:List Int}{n:Int}{ks:Fs}{ar:Nat}{s s':Rg}(h:keepP cells n ks ar s=some s'):s'.1=s.1:=by
 unfold keepP at h;split at h
 ·cases h
 ·split at h
  ·cases h
  ·split at h
   ·injection h with h;subst h;rfl
   ·split at h
    ·injection h with h;subst h;rfl
    ·cases h
theorem spot_le {pk:Int}{i ar wi:Nat}(h:ar<=wi):(spotP pk i ar wi).1<=(spotP pk i ar wi).2:=by
 unfold spotP;split
 ·simp only;split<;>omega
 ·exact h
theorem rg_node {cells:List Int}{e:Ex}{ar wi:Nat}{s s':Rg}{k:Int}(hx:rgE cells e ar wi s=some (s',k))(ha:ar<=wi)(hn:-9223372036854775808<=e.n/\e.n<=9223372036854775807):okN cells.length e.k e.n e.nm e.kids.len:=by
 have hd:=docF_of hx;obtain⟨hg,-⟩:=rgE_inv hx;unfold gdE at hg;simp only[not_or] at hg;obtain⟨g1,g2,g3,g4⟩:=hg;refine⟨hd,fun h5=>?_,fun h26=>?_,hn⟩
 ·rw[h5] at g4;simp[nuP] at g4;omega
 ·rw[h26] at g4;simp[nuP] at g4;omega
theorem rg_ok (cells:List Int):∀ (f:Fs) (pk:Int) (i ar wi:Nat) (s s':Rg) (kd:List Int),ar<=wi->rgF cells f pk i ar wi s=some (s',kd)->f.rng->okF cells.length f/\s'.1=s.1+f.size/\(s.1<=4096->s'.1<=4096)
 | ⟨none⟩,pk,i,ar,wi,s,s',kd,ha,h,hr=>by
  simp only[rgF] at h;injection h with h
  injection h with h1 h2
  subst h1;exact⟨trivial,rfl,id⟩
 | ⟨some ⟨k,n,nm,a,ks,r⟩⟩,pk,i,ar,wi,s,s',kd,ha,h,hr=>by
  have h0:rgF cells ⟨some ⟨k,n,nm,a,ks,r⟩⟩ pk i ar wi s=_:=rg_ex cells ⟨k,n,nm,a,ks⟩ r pk i ar wi s;rw[h0] at h;cases hx:rgE cells ⟨k,n,nm,a,ks⟩ (spotP pk i ar wi).1 (spotP pk i ar wi).2 s with
  | none=>rw[hx] at h;cases h
  | some z =>
   obtain⟨s2,k2⟩:=z;rw[hx] at h;simp only at h;cases hq:rgF cells r pk (i+1) ar wi s2 with
   | none=>rw[hq] at h;cases h
   | some z =>
    obtain⟨s3,rest⟩:=z;rw[hq] at h;injection h with h
    injection h with h1 h2
    subst h1;have hsp:=spot_le (pk:=pk) (i:=i) ha;have hnd:=rg_node hx hsp ⟨hr.1,hr.2.1⟩;obtain⟨hg,s1,kd1,hk,hl,hf1,hf2,hk2,h6⟩:=rgE_inv hx;simp only at hk hnd h6;obtain⟨a1,a2,a3⟩:=rg_ok cells ks k 0 _ _ _ _ _ hsp hk hr.2.2.1;obtain⟨b1,b2,b3⟩:=rg_ok cells r pk (i+1) ar wi _ _ _ ha hq hr.2.2.2;have hs2:s2.1=s1.1:=by
     split at h6
     ·exact keepP_num h6
     ·injection h6 with h6;rw[h6]
    have hsz:(⟨some ⟨k,n,nm,a,ks,r⟩⟩:Fs).size=ks.size+r.size+1:=rfl;unfold gdE at hg;simp only[not_or] at hg;refine⟨⟨hnd,a1,b1⟩,?_,fun hs=>?_⟩
    ·rw[hsz,b2,hs2,a2];simp only;omega
    ·exact b3 (by rw[hs2];exact a3 (by simp only;omega))
theorem kindP_ok {cells:List Int}{e:Ex}(h:kindP cells e≠0)(hn:-9223372036854775808<=e.n/\e.n<=9223372036854775807)(hr:e.kids.rng):okE cells.length e/\e.kids.size+1<=4096/\cells.length<=256/\∀ c,c ∈ cells->0<=c/\c<=4:=by
 obtain⟨h1,h2,s,hx,-⟩:=kindP_inv h;have hnd:=rg_node hx (Nat.le_refl 0) hn;obtain⟨hg,s1,kd1,hk,-,-,-,-,-⟩:=rgE_inv hx;obtain⟨a1,a2,a3⟩:=rg_ok cells e.kids e.k 0 0 0 _ _ _ (Nat.le_refl 0) hk hr;have h4:=a3 (by simp);rw[a2] at h4;simp only at h4;exact⟨⟨hnd,a1⟩,by omega,h1,h2⟩
end Go.Proofs.YtkhgahljbpmfaaaGreatDoor
