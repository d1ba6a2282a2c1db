import Derived.Test.YtkhgahljbpmfaaaGreatDoorEmG
set_option maxRecDepth 100000
set_option maxHeartbeats 8000000
namespace Go.Proofs.YtkhgahljbpmfaaaGreatDoor
open Option renaming none->G0,some->G1
open Nat renaming le_refl->G4,lt_of_lt_of_le->Hh,le_trans->In,not_lt_zero->Ir,zero_add->Ix,le_of_lt->IM,zero_mul->I4,zero_le->JI,lt_or_ge->Kc
open Go.Proofs.Tryz renaming prog->G5,underlying35->Iu,underlying40->Ju,ntmps40->Jy,func40->JG
open Go renaming World->G9,lt_of_block->Ha,bodyPost_ret->Hb,heap_alloc_new->Hc,Value->He,results->Hk,Calls->Hn,maxLen->Hu,Addr->Hw,cell_of_row->If,TypeId->Il,heap_setCell_same->IJ,frozen_of_row->IK,Ending->Ja,madeCells->Jb,splice->Kh
open List renaming getElem?_eq_getElem->Hd,length_append->Hx,length_cons->Hy,getD_eq_getElem?_getD->Ib,set_cons_zero->Ic,set_cons_succ->Id,getElem?_eq_none->Ie,replicate->Ik,getElem?_replicate->Iw,getElem?_append_right->IF,mem_cons->IR,getElem_mem->IU,getElem?_append_left->IV,drop_eq_getElem_cons->Jd,cons_append->Jh,take_succ_eq_append_getElem->Jj,mem_append_left->Jo,ext_getElem?->JK,append_assoc->JL,take_append_drop->J2,take_length->Ke,idxOf_append->Kz
open Go.RowKit renaming Below->Hf,intOf->Ih
open Go.Lib renaming hid->Hg
open Go.RowKit.Below renaming refl->Hi
open Bool renaming and_eq_true->Ia
open Go.World renaming cell?->J7
open Go.Value renaming int->Hp,ownBlock->JQ
open Exists renaming intro->Hv
open Int renaming toNat_natCast->IE
open Or renaming inl->Jp
open Go.AllReadyH renaming cons->Js
open Go.Ending renaming returned->Jx
open Go.Addr renaming add->JA
open Go.ChangeShapes Go.WideShapes Go.ChangeAt Go.RowKit
set_option linter.unusedVariables false
set_option linter.unusedSimpArgs false
structure CxQ (rb gw gn ga gt gb:Nat)(q t b:Ex)(ao:Option Hw)(cap:Nat)(at1:Option Hw)(ct:Nat)(ab:Option Hw)(cb ar u:Nat)(w:G9)(o:Nat->Nat):Prop where
 bw:Blk w o 0 gw (.cells #[pt0 rb] 82)
 bn:Blk w o 0 gn (.cells (iq q ao cap) 34)
 ba:Blk w o 0 ga (.cells #[.int .i64 ar,.int .i64 u] 86)
 bt:Blk w o 0 gt (.cells (iq t at1 ct) 34)
 bb:Blk w o 0 gb (.cells (iq b ab cb) 34)
 st:SnO w o t.kids at1
 sb:SnO w o b.kids ab
theorem CxQ.step {I:Nat->Prop}{rb gw gn ga gt gb:Nat}{q t b:Ex}{ao:Option Hw}{cap:Nat}{at1:Option Hw}{ct:Nat}{ab:Option Hw}{cb ar u:Nat}{w w':G9}{o o':Nat->Nat}(h:CxQ rb gw gn ga gt gb q t b ao cap at1 ct ab cb ar u w o)(x:as I w o w' o')(a:¬I 0):CxQ rb gw gn ga gt gb q t b ao cap at1 ct ab cb ar u w' o' :=
 ⟨h.bw.step x a,h.bn.step x a,h.ba.step x a,h.bt.step x a,h.bb.step x a,h.st.stepO x a,h.sb.stepO x a⟩
theorem CxQ.keeps (rb gw gn ga gt gb:Nat)(q t b:Ex)(ao:Option Hw)(cap:Nat)(at1:Option Hw)(ct:Nat)(ab:Option Hw)(cb ar u:Nat):ol (CxQ rb gw gn ga gt gb q t b ao cap at1 ct ab cb ar u):=λh x=>h.step x dZ
theorem ot.mono {rb:Nat}{lv:He}{ls:List Int}{K b:G9->(Nat->Nat)->Prop}{F:FuncId}{c:Array He}{t:Nat->Em->Em}{n:Nat}(h:ot rb lv ls K F c t n)(d:∀ w o,b w o->K w o):ot rb lv ls b F c t n:=λag a w o s X E k=>h ag a w o s X E (d w o k)
theorem Ct (nc N:Nat)(HP:jE nc N)(n:Int)(nm:List UInt8)(a:Int)(t b:Ex)(ao:Option Hw)(cap ar u:Nat)(w:G9)(o:Nat->Nat)(rb:Nat)(lv:He)(ls:List Int)(s:Em)(hn:1<=n/\n<=6)(an:okF nc (Fs.ex t (Fs.ex b .nil)))(aK:t.kids.size<N)(aa:b.kids.size<N)(aq:ls.length=nc)(M:nc<=256)(hu:u+3*(t.kids.size+b.kids.size+3)<=1000000000)(aN:ar+(t.kids.size+b.kids.size+3)<=1000000000)(S:SnO w o (Fs.ex t (Fs.ex b .nil)) ao)(av:s.ks.length=ls.length)
  (hm:s.mes+300*(t.kids.size+b.kids.size+3)<=100000000) (Z:s.dp<=1000000001) (X:EmX w o lv ls) (h:EmW w o rb lv s) :
  Hn G5 83 #[pt0 rb,exN ⟨21,n,nm,a,Fs.ex t (Fs.ex b .nil)⟩ ao cap,spV ar u] w (od w o rb lv s (qua ls n (emE ls t) (emE ls b) ar u s) (300*(t.kids.size+b.kids.size+3))):=by
 have aM:∀ (fn:Fn) (first cap:Array He) (w:G9),(Instr.makeFunc fn first cap).run G5 w=.ok (.func fn first cap) w:=λ_ _ _ _=>rfl;rw[dR];simp only;obtain⟨g,hg⟩:=exq w.heap.size;obtain⟨w1,af⟩:=exq (((w.alloc (.cells #[pt0 rb] 82)).alloc (.cells #[.int .i64 21,.int .i64 n,stv nm,.slice ao (Fs.ex t (Fs.ex b .nil)).len cap] 34)).alloc (.cells #[.int .i64 ar,.int .i64 u] 86));obtain⟨z1,z2,z3,z4,z5⟩:=al3 w (.cells #[pt0 rb] 82) (.cells #[.int .i64 21,.int .i64 n,stv nm,.slice ao (Fs.ex t (Fs.ex b .nil)).len cap] 34) (.cells #[.int .i64 ar,.int .i64 u] 86);rw[<-af,<-hg] at z1 z2 z3 z4 z5;have s0:∀ {I:Nat->Prop},as I w o w1 (dQ w o 0):=λ{I}=>gW o (by rw[<-hg];exact z5);have ag:∀ j,dQ w o 0 (g+j)=0:=λj=>dY (by omega);have al:=S.stepO (s0 (I:=λ_=>False)) id;have E1:=h.step (s0 (I:=λ_=>False)) noF;have X1:=X.step (s0 (I:=λ_=>False)) id;have S0:=s0 (I:=I17);have ah:Blk w1 (dQ w o 0) 0 g (.cells #[pt0 rb] 82):=⟨z1,ag 0⟩;have ab:Blk w1 (dQ w o 0) 0 (g+1) (.cells #[.int .i64 21,.int .i64 n,stv nm,.slice ao (Fs.ex t (Fs.ex b .nil)).len cap] 34):=⟨z2,ag 1⟩;have ai:Blk w1 (dQ w o 0) 0 (g+2) (.cells #[.int .i64 ar,.int .i64 u] 86):=⟨z3,ag 2⟩;generalize dQ w o 0=o1 at *;have HG:=Hg hg;have au:(Fs.ex t (Fs.ex b .nil)).len=2:=rfl;obtain⟨b0,off,ak,ck,rfl,-,Sy,NK⟩:=ij (x:=.nil) al 0 rfl;obtain⟨aO,aL,f,e,aJ,-,aj,am⟩:=ij (x:=one t) al 1 rfl;cases aJ;rw[au] at af ab ⊢;obtain⟨⟨n0,n1,n2,n3⟩,-⟩:=dW ab.1;have CC:∀ wx ox,as (λ_=>False) w1 o1 wx ox->wx.cell? ⟨g+1,3,G0⟩=G1 (.slice (G1 ⟨b0,off,G0⟩) 2 cap)/\wx.cell? ⟨b0,off,G0⟩=G1 (.int .i64 t.k)/\wx.cell? ⟨b0,off+1,G0⟩=G1 (.int .i64 t.n)/\wx.cell? ⟨b0,off+2,G0⟩=G1 (stv t.nm)/\wx.cell? ⟨b0,off+3,G0⟩=G1 (.slice ak t.kids.len ck)/\wx.cell? ⟨b0,off+4,G0⟩=G1 (.int .i64 b.k)/\wx.cell? ⟨b0,off+5,G0⟩=G1 (.int .i64 b.n)/\wx.cell? ⟨b0,off+6,G0⟩=G1 (stv b.nm)/\wx.cell? ⟨b0,off+7,G0⟩=G1 (.slice f b.kids.len e):=λwx ox x=>by
  obtain⟨p0,p1,p2,p3⟩:=NK x id;obtain⟨q0,q1,q2,q3⟩:=am x id;exact⟨(dW (ab.step x id).1).1.2.2.2,p0,p1,p2,p3,q0,q1,q2,q3⟩
 obtain⟨m3,x0,x1,x2,x3,y0,y1,y2,y3⟩:=CC w1 o1 (as.refl _ _ _);obtain⟨aF,aD,aC,aB,aA,az,ay,ax,aw⟩:=CC w1.drew o1 ((as.refl _ _ _).drew);have aG:=z4;clear s0 ag z1 z2 z3 z4 z5 h X S hg;have T:=Hg aq;have V:=Hg av;clear aG av aq;go_enter Tryz.func83,Tryz.ntmps83;go_upto_region 1 with fail;rw[<-af,<-HG.out];clear af;go_cut [6,7] (λv6 v7 wx=>∃gt gb L,v6=pt0 gt/\v7=pt0 gb/\CxQ rb g (g+1) (g+2) gt gb ⟨21,n,nm,a,Fs.ex t (Fs.ex b .nil)⟩ t b (G1 ⟨b0,off,G0⟩) cap ak ck f e ar u wx L/\EmW wx L rb lv s/\as I17 w1 o1 wx L)
 case first =>
  have HX:Hid (∀ (p q:Obj) (gt gb:Nat),((w1.alloc p).alloc q).drew.heap[gt]?=G1 (.cells (iq t ak ck) 34)->((w1.alloc p).alloc q).drew.heap[gb]?=G1 (.cells (iq b f e) 34)->w1.heap.size<=gt->w1.heap.size<=gb->∃L,CxQ rb g (g+1) (g+2) gt gb ⟨21,n,nm,a,Fs.ex t (Fs.ex b .nil)⟩ t b (G1 ⟨b0,off,G0⟩) cap ak ck f e ar u ((w1.alloc p).alloc q).drew L/\EmW ((w1.alloc p).alloc q).drew L rb lv s/\as I17 w1 o1 ((w1.alloc p).alloc q).drew L):=λp q gt gb h1 h2 h3 h4=>by
   have B:=(al2 w1 p q).2.2.2.drew;have x:as (λ_=>False) w1 o1 ((w1.alloc p).alloc q).drew (dQ w1 o1 0):=gW o1 B;exact⟨dQ w1 o1 0,⟨ah.step x id,ab.step x id,ai.step x id,⟨h1,dY h3⟩,⟨h2,dY h4⟩,Sy.stepO x id,aj.stepO x id⟩,E1.step x noF,gW o1 B⟩
  have A1:=λp q=>al2 w1 p q;clear ah ab ai Sy aj NK am CC al E1 X1 HP;go_region_held3 (λwx=>wx.cell? ⟨g+1,3,G0⟩=G1 (.slice (G1 ⟨b0,off,G0⟩) 2 cap)/\wx.cell? ⟨b0,off,G0⟩=G1 (.int .i64 t.k)/\wx.cell? ⟨b0,off+1,G0⟩=G1 (.int .i64 t.n)/\wx.cell? ⟨b0,off+2,G0⟩=G1 (stv t.nm)/\wx.cell? ⟨b0,off+3,G0⟩=G1 (.slice ak t.kids.len ck)/\wx.cell? ⟨b0,off+4,G0⟩=G1 (.int .i64 b.k)/\wx.cell? ⟨b0,off+5,G0⟩=G1 (.int .i64 b.n)/\wx.cell? ⟨b0,off+6,G0⟩=G1 (stv b.nm)/\wx.cell? ⟨b0,off+7,G0⟩=G1 (.slice f b.kids.len e)) (go_keep) (fail)
  ·go_wp2;go_meet;obtain⟨L,h1,h2,h3⟩:=HX.out _ _ w1.heap.size (w1.heap.size+1) (A1 _ _).1 (A1 _ _).2.1 (by omega) (by omega);exact⟨_,_,L,rfl,rfl,h1,h2,h3⟩
  ·go_wp2;go_meet;obtain⟨L,h1,h2,h3⟩:=HX.out _ _ (w1.heap.size+1) w1.heap.size (A1 _ _).2.1 (A1 _ _).1 (by omega) (by omega);exact⟨_,_,L,rfl,rfl,h1,h2,h3⟩
 case rest =>
  obtain⟨gt,gb,L,rfl,rfl,Q2,E2,S2⟩:=hcut;clear m3 aF x0 x1 x2 x3 y0 y1 y2 y3 aD aC aB aA az ay ax aw CC NK am Sy aj ab ah ai n0 n1 n2 n3;have O:=X1.step S2 dZ;have aE:=(et an).1;have Y:=(et (et an).2).1;have HC:=HP t ak ck ar u wc L rb lv ls s aK aE T.out M Q2.st V.out (by omega) (by omega) (by omega) Z O E2;rw[dR] at HC;have v:Hid (∀ w' o',as I17 wc L w' o'->w'.cell? ⟨g,0,G0⟩=G1 (pt0 rb)/\(w'.cell? ⟨gb,0,G0⟩=G1 (.int .i64 b.k)/\w'.cell? ⟨gb,1,G0⟩=G1 (.int .i64 b.n)/\w'.cell? ⟨gb,2,G0⟩=G1 (stv b.nm)/\w'.cell? ⟨gb,3,G0⟩=G1 (.slice f b.kids.len e))/\w'.cell? ⟨g+2,0,G0⟩=G1 (.int .i64 ar)/\w'.cell? ⟨g+2,1,G0⟩=G1 (.int .i64 u)/\w'.cell? ⟨g+1,1,G0⟩=G1 (.int .i64 n)):=λw' o' S=>by
   have Q:=Q2.step S dZ;exact⟨eT Q.bw.1,(dW Q.bb.1).1,(eh Q.ba.1).1,(eh Q.ba.1).2,(dW Q.bn.1).1.2.1⟩
  obtain⟨c0,⟨t0,t1,t2,t3⟩,a0,a1,n1⟩:=v.out _ _ (as.refl I17 wc L);obtain⟨⟨s0,s1,s2,s3⟩,-⟩:=dW Q2.bt.1;go_upto_region 3 with (first|(go_at_call 40;refine HC.mono ?_;rintro z w3 ⟨rfl,⟨o3,E3,P⟩,g3⟩))
  clear c0 t0 t1 t2 t3 a0 a1 n1 s0 s1 s2 s3;obtain⟨c0,⟨t0,t1,t2,t3⟩,a0,a1,n1⟩:=v.out _ _ P;by_cases aI:n=1
  ·subst aI;have y:=td nc N HP b f e 15 0 ar u w3 o3 rb lv ls (emE ls t ar u s) Y aa T.out M (by omega) (by omega) (by omega) (by omega) (Q2.step P dZ).sb (g3.ks.trans V.out) (by have:=g3.mes;omega) (g3.dp Z) (O.step P dZ) E3;rw[dR] at y;clear HC HP;go_wp2_with (first|(go_at_call 128;refine y.mono ?_;rintro z w4 ⟨rfl,⟨l,E4,S4⟩,C⟩))
   go_end0
   exact⟨rfl,⟨l,by simpa [qua] using E4,((S0.trans S2).trans P).trans S4⟩,by simpa [qua] using (g3.trans C).le (by omega)⟩
  by_cases hn2:n=2
  ·subst hn2;have y:=td nc N HP b f e 14 1 ar u w3 o3 rb lv ls (emE ls t ar u s) Y aa T.out M (by omega) (by omega) (by omega) (by omega) (Q2.step P dZ).sb (g3.ks.trans V.out) (by have:=g3.mes;omega) (g3.dp Z) (O.step P dZ) E3;rw[dR] at y;clear HC HP;go_wp2_with (first|(go_at_call 128;refine y.mono ?_;rintro z w4 ⟨rfl,⟨l,E4,S4⟩,C⟩))
   go_end0
   exact⟨rfl,⟨l,by simpa [qua] using E4,((S0.trans S2).trans P).trans S4⟩,by simpa [qua] using (g3.trans C).le (by omega)⟩
  by_cases aH:n=3
  ·subst aH;have U:=fs 0 1 ar u w3 o3 rb lv ls (emE ls t ar u s) (by omega) (by omega) (by omega) (g3.dp Z) (by have:=g3.mes;omega) (O.step P dZ) E3;go_upto_region 10 with (first|(go_at_call 74;refine U.mono ?_;rintro z w4 ⟨rfl,l,E4,S4⟩))
   have C:=g3.trans (iK (emE ls t ar u s) 0 1 u (by omega));have A:=P.trans S4;have c:=A.trans ((as.refl I17 w4 l).drew);have HO:=λw'=>kQ ar u 1 w' (by omega) (by omega);have J:∀ m,Hf w4.drew.heap.size w4.drew m->_:=λm r=>mf nc N HP 130 #[pt0 g,pt0 (g+2)] (λg x=>((x.lay 14 g 0).con 1 1 (u+1)).lay 6 0 0) 4 _ (CxQ.keeps _ _ _ _ _ _ _ _ _ _ _ _ _ _ _ _ _) Fu b f e ar (u+1) m l rb lv ls ((Gq rb g (g+2) ar u lv ls (by omega)).mono (λ_ _ h=>⟨h.bw,h.ba⟩)) ((emE ls t ar u s).con 0 1 u) Y aa T.out M (by omega) (by omega) ((Q2.step c dZ).step (as.ofBelow (I:=λ_=>False) l r) id).sb (C.ks.trans V.out) (by have:=C.mes;omega) (C.dp Z) ((O.step c dZ).below r) ((E4.step ((as.refl (λ_=>False) w4 l).drew) noF).below r) ((Q2.step c dZ).step (as.ofBelow (I:=λ_=>False) l r) id);clear HC HP U c0 t0 t1 t2 t3 a0 a1 n1;obtain⟨c0,⟨t0,t1,t2,t3⟩,a0,a1,n1⟩:=v.out _ _ A;obtain⟨e0,⟨H,G,F,E⟩,D,h1,h2⟩:=v.out _ _ c;go_region_held3 (λwx=>wx.cell? ⟨g,0,G0⟩=G1 (pt0 rb)/\(wx.cell? ⟨gb,0,G0⟩=G1 (.int .i64 b.k)/\wx.cell? ⟨gb,1,G0⟩=G1 (.int .i64 b.n)/\wx.cell? ⟨gb,2,G0⟩=G1 (stv b.nm)/\wx.cell? ⟨gb,3,G0⟩=G1 (.slice f b.kids.len e))/\wx.cell? ⟨g+2,0,G0⟩=G1 (.int .i64 ar)/\wx.cell? ⟨g+2,1,G0⟩=G1 (.int .i64 u)) (go_keep) (first|(go_at_call 84;refine(HO _).mono ?_;rintro z m ⟨rfl,r⟩;have i:=c.trans (as.ofBelow (I:=I17) l r);obtain⟨e0,⟨H,G,F,E⟩,D,h1,h2⟩:=v.out _ _ i;have y:=J m r;rw[dR] at y)|(go_at_call 129;refine y.mono ?_;rintro z w6 ⟨rfl,⟨K,E6,S6⟩,g6⟩;obtain⟨e0,⟨H,G,F,E⟩,D,h1,h2⟩:=v.out _ _ (i.trans S6)))
   all_goals
    go_wp2
    go_end0
    exact⟨rfl,⟨K,by simpa [qua] using E6,((S0.trans S2).trans i).trans S6⟩,by simpa [qua] using (C.trans g6).le (by omega)⟩
  by_cases hn4:n=4
  ·subst hn4;have U:=fs 0 1 ar u w3 o3 rb lv ls (emE ls t ar u s) (by omega) (by omega) (by omega) (g3.dp Z) (by have:=g3.mes;omega) (O.step P dZ) E3;go_upto_region 13 with (first|(go_at_call 74;refine U.mono ?_;rintro z w4 ⟨rfl,l,E4,S4⟩))
   have C:=g3.trans (iK (emE ls t ar u s) 0 1 u (by omega));have A:=P.trans S4;have c:=A.trans ((as.refl I17 w4 l).drew);have HO:=λw'=>kQ ar u 1 w' (by omega) (by omega);have J:∀ m,Hf w4.drew.heap.size w4.drew m->_:=λm r=>mf nc N HP 131 #[pt0 g] (λ_ x=>x.lay 6 0 0) 4 _ (CxQ.keeps _ _ _ _ _ _ _ _ _ _ _ _ _ _ _ _ _) Fl b f e ar (u+1) m l rb lv ls ((GO rb g lv ls).mono (λ_ _ h=>h.bw)) ((emE ls t ar u s).con 0 1 u) Y aa T.out M (by omega) (by omega) ((Q2.step c dZ).step (as.ofBelow (I:=λ_=>False) l r) id).sb (C.ks.trans V.out) (by have:=C.mes;omega) (C.dp Z) ((O.step c dZ).below r) ((E4.step ((as.refl (λ_=>False) w4 l).drew) noF).below r) ((Q2.step c dZ).step (as.ofBelow (I:=λ_=>False) l r) id);clear HC HP U c0 t0 t1 t2 t3 a0 a1 n1;obtain⟨c0,⟨t0,t1,t2,t3⟩,a0,a1,n1⟩:=v.out _ _ A;obtain⟨e0,⟨H,G,F,E⟩,D,h1,h2⟩:=v.out _ _ c;go_region_held3 (λwx=>wx.cell? ⟨g,0,G0⟩=G1 (pt0 rb)/\(wx.cell? ⟨gb,0,G0⟩=G1 (.int .i64 b.k)/\wx.cell? ⟨gb,1,G0⟩=G1 (.int .i64 b.n)/\wx.cell? ⟨gb,2,G0⟩=G1 (stv b.nm)/\wx.cell? ⟨gb,3,G0⟩=G1 (.slice f b.kids.len e))/\wx.cell? ⟨g+2,0,G0⟩=G1 (.int .i64 ar)/\wx.cell? ⟨g+2,1,G0⟩=G1 (.int .i64 u)) (go_keep) (first|(go_at_call 84;refine(HO _).mono ?_;rintro z m ⟨rfl,r⟩;have i:=c.trans (as.ofBelow (I:=I17) l r);obtain⟨e0,⟨H,G,F,E⟩,D,h1,h2⟩:=v.out _ _ i;have y:=J m r;rw[dR] at y)|(go_at_call 129;refine y.mono ?_;rintro z w6 ⟨rfl,⟨K,E6,S6⟩,g6⟩;obtain⟨e0,⟨H,G,F,E⟩,D,h1,h2⟩:=v.out _ _ (i.trans S6)))
   all_goals
    go_wp2
    go_end0
    exact⟨rfl,⟨K,by simpa [qua] using E6,((S0.trans S2).trans i).trans S6⟩,by simpa [qua] using (C.trans g6).le (by omega)⟩
  have ap:n=5\/n=6:=by omega
  rcases ap with hn5|hn5
  ·subst hn5;have U:=fs 0 1 ar u w3 o3 rb lv ls (emE ls t ar u s) (by omega) (by omega) (by omega) (g3.dp Z) (by have:=g3.mes;omega) (O.step P dZ) E3;go_upto_region 17 with (first|(go_at_call 74;refine U.mono ?_;rintro z w4 ⟨rfl,l,E4,S4⟩))
   have C:=g3.trans (iK (emE ls t ar u s) 0 1 u (by omega));have A:=P.trans S4;have c:=A.trans ((as.refl I17 w4 l).drew);have HO:=λw'=>kQ ar u 1 w' (by omega) (by omega);have ae:=λw'=>kQ ar u 2 w' (by omega) (by omega);have HK:∀ m,Hf w4.drew.heap.size w4.drew m->Hn G5 74 #[.pointer (G1 ⟨rb,0,G0⟩),.int .i64 0,.int .i64 2,spV ar (u+1)] m (mW m l rb lv (((emE ls t ar u s).con 0 1 u).con 0 2 (u+1)) (.tuple #[])):=λm r=>fs 0 2 ar (u+1) m l rb lv ls ((emE ls t ar u s).con 0 1 u) (by omega) (by omega) (by omega) (C.dp Z) (by have:=C.mes;omega) ((O.step c dZ).below r) ((E4.step ((as.refl (λ_=>False) w4 l).drew) noF).below r);clear U c0 t0 t1 t2 t3 a0 a1 n1;obtain⟨c0,⟨t0,t1,t2,t3⟩,a0,a1,n1⟩:=v.out _ _ A;obtain⟨e0,⟨H,G,F,E⟩,D,h1,h2⟩:=v.out _ _ c;go_region_held3 (λwx=>wx.cell? ⟨g,0,G0⟩=G1 (pt0 rb)/\wx.cell? ⟨g+2,0,G0⟩=G1 (.int .i64 ar)/\wx.cell? ⟨g+2,1,G0⟩=G1 (.int .i64 u)) (go_keep) (first|(go_at_call 84;refine(HO _).mono ?_;rintro z m ⟨rfl,r⟩;have i:=c.trans (as.ofBelow (I:=I17) l r);obtain⟨e0,⟨H,G,F,E⟩,D,h1,h2⟩:=v.out _ _ i;have y:=HK m r)|(go_at_call 74;refine y.mono ?_;rintro z w6 ⟨rfl,K,E6,S6⟩;obtain⟨e0,⟨H,G,F,E⟩,D,h1,h2⟩:=v.out _ _ (i.trans S6)))
   all_goals
    have ad:=i.trans S6;have d:=ad.trans ((as.refl I17 w6 K).drew);have g6:=C.trans (iK ((emE ls t ar u s).con 0 1 u) 0 2 (u+1) (by omega));have J:∀ w7,Hf w6.drew.heap.size w6.drew w7->_:=λw7 W=>mf nc N HP 132 #[pt0 g,pt0 (g+1)] (λ_ x=>x.lay 26 (5-5:Int).toNat 0) 4 _ (CxQ.keeps _ _ _ _ _ _ _ _ _ _ _ _ _ _ _ _ _) zc b f e ar (u+2) w7 K rb lv ls ((Ee rb g (g+1) ⟨21,5,nm,a,Fs.ex t (Fs.ex b .nil)⟩ (G1 ⟨b0,off,G0⟩) cap lv ls (by simp)).mono (λ_ _ h=>⟨h.bw,h.bn⟩)) (((emE ls t ar u s).con 0 1 u).con 0 2 (u+1)) Y aa T.out M (by omega) (by omega) ((Q2.step d dZ).step (as.ofBelow (I:=λ_=>False) K W) id).sb (g6.ks.trans V.out) (by have:=g6.mes;omega) (g6.dp Z) ((O.step d dZ).below W) ((E6.step ((as.refl (λ_=>False) w6 K).drew) noF).below W) ((Q2.step d dZ).step (as.ofBelow (I:=λ_=>False) K W) id);clear HK y HO c0 t0 t1 t2 t3 a0 a1 n1 e0 H G F E D h1 h2;obtain⟨c0,⟨t0,t1,t2,t3⟩,a0,a1,n1⟩:=v.out _ _ ad;obtain⟨e0,⟨H,G,F,E⟩,D,h1,h2⟩:=v.out _ _ d;go_upto_region 18 with fail;go_region_held3 (λwx=>wx.cell? ⟨g,0,G0⟩=G1 (pt0 rb)/\(wx.cell? ⟨gb,0,G0⟩=G1 (.int .i64 b.k)/\wx.cell? ⟨gb,1,G0⟩=G1 (.int .i64 b.n)/\wx.cell? ⟨gb,2,G0⟩=G1 (stv b.nm)/\wx.cell? ⟨gb,3,G0⟩=G1 (.slice f b.kids.len e))/\wx.cell? ⟨g+2,0,G0⟩=G1 (.int .i64 ar)/\wx.cell? ⟨g+2,1,G0⟩=G1 (.int .i64 u)) (go_keep) (first|(go_at_call 84;refine(ae _).mono ?_;rintro z w7 ⟨rfl,W⟩;have R:=d.trans (as.ofBelow (I:=I17) K W);obtain⟨e0,⟨H,G,F,E⟩,D,h1,h2⟩:=v.out _ _ R;have y:=J w7 W;rw[dR] at y)|(go_at_call 129;refine y.mono ?_;rintro z w8 ⟨rfl,⟨o8,E8,S8⟩,g8⟩;obtain⟨e0,⟨H,G,F,E⟩,D,h1,h2⟩:=v.out _ _ (R.trans S8)))
    all_goals
     have ac:=R.trans S8;have g18:=g6.trans g8;have U:=fp 27 0 0 w8 o8 rb lv ls (pP ls (emE ls b) (λ_ x=>x.lay 26 (5-5:Int).toNat 0) ar (u+2) (((emE ls t ar u s).con 0 1 u).con 0 2 (u+1))) (by omega) (by omega) (by omega) (by have:=g18.mes;omega) (O.step ac dZ) E8;clear J y ae;go_wp2_with (first|(go_at_call 41;refine U.mono ?_;rintro z w9 ⟨rfl,o9,E9,S9⟩))
     go_end0
     exact⟨rfl,⟨o9,by simpa [qua] using E9,((S0.trans S2).trans ac).trans S9⟩,by simpa [qua] using (g18.trans (eV _ 27 0 0)).le (by omega)⟩
  ·subst hn5;have U:=fs 0 1 ar u w3 o3 rb lv ls (emE ls t ar u s) (by omega) (by omega) (by omega) (g3.dp Z) (by have:=g3.mes;omega) (O.step P dZ) E3;go_upto_region 17 with (first|(go_at_call 74;refine U.mono ?_;rintro z w4 ⟨rfl,l,E4,S4⟩))
   have C:=g3.trans (iK (emE ls t ar u s) 0 1 u (by omega));have A:=P.trans S4;have c:=A.trans ((as.refl I17 w4 l).drew);have HO:=λw'=>kQ ar u 1 w' (by omega) (by omega);have ae:=λw'=>kQ ar u 2 w' (by omega) (by omega);have HK:∀ m,Hf w4.drew.heap.size w4.drew m->Hn G5 74 #[.pointer (G1 ⟨rb,0,G0⟩),.int .i64 0,.int .i64 2,spV ar (u+1)] m (mW m l rb lv (((emE ls t ar u s).con 0 1 u).con 0 2 (u+1)) (.tuple #[])):=λm r=>fs 0 2 ar (u+1) m l rb lv ls ((emE ls t ar u s).con 0 1 u) (by omega) (by omega) (by omega) (C.dp Z) (by have:=C.mes;omega) ((O.step c dZ).below r) ((E4.step ((as.refl (λ_=>False) w4 l).drew) noF).below r);clear U c0 t0 t1 t2 t3 a0 a1 n1;obtain⟨c0,⟨t0,t1,t2,t3⟩,a0,a1,n1⟩:=v.out _ _ A;obtain⟨e0,⟨H,G,F,E⟩,D,h1,h2⟩:=v.out _ _ c;go_region_held3 (λwx=>wx.cell? ⟨g,0,G0⟩=G1 (pt0 rb)/\wx.cell? ⟨g+2,0,G0⟩=G1 (.int .i64 ar)/\wx.cell? ⟨g+2,1,G0⟩=G1 (.int .i64 u)) (go_keep) (first|(go_at_call 84;refine(HO _).mono ?_;rintro z m ⟨rfl,r⟩;have i:=c.trans (as.ofBelow (I:=I17) l r);obtain⟨e0,⟨H,G,F,E⟩,D,h1,h2⟩:=v.out _ _ i;have y:=HK m r)|(go_at_call 74;refine y.mono ?_;rintro z w6 ⟨rfl,K,E6,S6⟩;obtain⟨e0,⟨H,G,F,E⟩,D,h1,h2⟩:=v.out _ _ (i.trans S6)))
   all_goals
    have ad:=i.trans S6;have d:=ad.trans ((as.refl I17 w6 K).drew);have g6:=C.trans (iK ((emE ls t ar u s).con 0 1 u) 0 2 (u+1) (by omega));have J:∀ w7,Hf w6.drew.heap.size w6.drew w7->_:=λw7 W=>mf nc N HP 132 #[pt0 g,pt0 (g+1)] (λ_ x=>x.lay 26 (6-5:Int).toNat 0) 4 _ (CxQ.keeps _ _ _ _ _ _ _ _ _ _ _ _ _ _ _ _ _) zc b f e ar (u+2) w7 K rb lv ls ((Ee rb g (g+1) ⟨21,6,nm,a,Fs.ex t (Fs.ex b .nil)⟩ (G1 ⟨b0,off,G0⟩) cap lv ls (by simp)).mono (λ_ _ h=>⟨h.bw,h.bn⟩)) (((emE ls t ar u s).con 0 1 u).con 0 2 (u+1)) Y aa T.out M (by omega) (by omega) ((Q2.step d dZ).step (as.ofBelow (I:=λ_=>False) K W) id).sb (g6.ks.trans V.out) (by have:=g6.mes;omega) (g6.dp Z) ((O.step d dZ).below W) ((E6.step ((as.refl (λ_=>False) w6 K).drew) noF).below W) ((Q2.step d dZ).step (as.ofBelow (I:=λ_=>False) K W) id);clear HK y HO c0 t0 t1 t2 t3 a0 a1 n1 e0 H G F E D h1 h2;obtain⟨c0,⟨t0,t1,t2,t3⟩,a0,a1,n1⟩:=v.out _ _ ad;obtain⟨e0,⟨H,G,F,E⟩,D,h1,h2⟩:=v.out _ _ d;go_upto_region 18 with fail;go_region_held3 (λwx=>wx.cell? ⟨g,0,G0⟩=G1 (pt0 rb)/\(wx.cell? ⟨gb,0,G0⟩=G1 (.int .i64 b.k)/\wx.cell? ⟨gb,1,G0⟩=G1 (.int .i64 b.n)/\wx.cell? ⟨gb,2,G0⟩=G1 (stv b.nm)/\wx.cell? ⟨gb,3,G0⟩=G1 (.slice f b.kids.len e))/\wx.cell? ⟨g+2,0,G0⟩=G1 (.int .i64 ar)/\wx.cell? ⟨g+2,1,G0⟩=G1 (.int .i64 u)) (go_keep) (first|(go_at_call 84;refine(ae _).mono ?_;rintro z w7 ⟨rfl,W⟩;have R:=d.trans (as.ofBelow (I:=I17) K W);obtain⟨e0,⟨H,G,F,E⟩,D,h1,h2⟩:=v.out _ _ R;have y:=J w7 W;rw[dR] at y)|(go_at_call 129;refine y.mono ?_;rintro z w8 ⟨rfl,⟨o8,E8,S8⟩,g8⟩;obtain⟨e0,⟨H,G,F,E⟩,D,h1,h2⟩:=v.out _ _ (R.trans S8)))
    all_goals
     have ac:=R.trans S8;have g18:=g6.trans g8;have U:=fp 27 0 0 w8 o8 rb lv ls (pP ls (emE ls b) (λ_ x=>x.lay 26 (6-5:Int).toNat 0) ar (u+2) (((emE ls t ar u s).con 0 1 u).con 0 2 (u+1))) (by omega) (by omega) (by omega) (by have:=g18.mes;omega) (O.step ac dZ) E8;clear J y ae;go_wp2_with (first|(go_at_call 41;refine U.mono ?_;rintro z w9 ⟨rfl,o9,E9,S9⟩))
     go_end0
     exact⟨rfl,⟨o9,by simpa [qua] using E9,((S0.trans S2).trans ac).trans S9⟩,by simpa [qua] using (g18.trans (eV _ 27 0 0)).le (by omega)⟩
theorem Fr:Ent 80:=λ_ _=>by kernel_rfl
theorem Fo:Ent 81:=λ_ _=>by kernel_rfl
theorem vJ (s:Em)(op a b u:Nat)(c:u<=1000000000):Grw s (s.push op a b u) 1:=⟨by rw[Em.mes_push];omega,by simp[Em.push],rfl,λh=>by show max s.dp (u+1)<=_;omega⟩
theorem F9 (s:Em)(n:Int):Grw s (s.kc n) 1:=⟨s.mes_kc n,G4 _,rfl,id⟩
theorem Ax {k n:Int}{nm:List UInt8}{len:Nat}(h:eg k n nm len=true):nm.length<=12:=by
 have a:=gX h;unfold eg at h;rcases a with rfl|rfl|rfl|rfl|rfl|rfl|rfl|rfl|rfl|rfl|rfl|rfl|rfl|rfl|rfl|rfl|rfl|rfl|rfl|rfl|rfl|rfl|rfl|rfl|rfl
 all_goals first
 | (simp at h;have h2:nm=[]:=(by first|exact h.1|exact h.2.1|exact h.2.2.1|exact h.2|exact h);rw[h2];simp;done)
 | (
  simp at h;have h2:=h.2.2;unfold eH at h2;split at h2
  ·cases h2
  ·simp only[Ia,decide_eq_true_eq] at h2;simp;omega)
theorem rp:∀ (d:Fs) (y:Ex) (r:Fs),d.app (Fs.ex y r)=(d.snoc y).app r
 | ⟨G0⟩,y,r=>rfl
 | ⟨G1 ⟨k,n,nm,a,ks,t⟩⟩,y,r=>by
  have h:=rp t y r;simp only[Fs.app,Fs.snoc] at h ⊢;rw[h]
theorem rk {nc:Nat}:∀ {d r:Fs},okF nc (d.app r)->okF nc r
 | ⟨G0⟩,r,h=>h
 | ⟨G1 ⟨k,n,nm,a,ks,t⟩⟩,r,h=>rk (d:=t) h.2.2
theorem i7:∀ (f:Fs),f.len<=f.size
 | ⟨G0⟩=>G4 _
 | ⟨G1 ⟨k,n,nm,a,ks,r⟩⟩=>by have:=i7 r;simp only[Fs.len,Fs.size];omega
abbrev Bx (w:G9)(g rb:Nat)(k n:Int)(nm:List UInt8)(sl:He)(ar u:Nat):Prop:=w.cell? ⟨g,0,G0⟩=G1 (pt0 rb)/\(w.cell? ⟨g+1,0,G0⟩=G1 (.int .i64 k)/\w.cell? ⟨g+1,1,G0⟩=G1 (.int .i64 n)/\w.cell? ⟨g+1,2,G0⟩=G1 (stv nm)/\w.cell? ⟨g+1,3,G0⟩=G1 sl)/\w.cell? ⟨g+2,0,G0⟩=G1 (.int .i64 ar)/\w.cell? ⟨g+2,1,G0⟩=G1 (.int .i64 u)
theorem uA (nc N:Nat)(ih:jE nc N):jE nc (N+1):=by
 intro e ao cap ar u w o rb lv ls s hN Y C aa S D hm hu Z hd X h;obtain⟨k,n,nm,a,ks⟩:=e;have H:=Y.2;have J:=lp Y.1.1;simp only at hN H J S hm hu Z;rw[dR];simp only;by_cases h1:k=1
 ·subst h1;have P:emE ls ⟨1,n,nm,a,ks⟩ ar u s=s.con n 1 u:=by simp[emE,prt]
  rw[P];have ad:kdE ⟨1,n,nm,a,ks⟩=1:=by simp[kdE,kdN]
  obtain⟨g,A⟩:=exq w.heap.size;obtain⟨w1,i⟩:=exq (((w.alloc (.cells #[pt0 rb] 82)).alloc (zNv 1 n nm ao ks.len cap)).alloc (.cells #[.int .i64 ar,.int .i64 u] 86));obtain⟨F,z2,z3,z4,z5⟩:=al3 w (.cells #[pt0 rb] 82) (zNv 1 n nm ao ks.len cap) (.cells #[.int .i64 ar,.int .i64 u] 86);rw[<-i,<-A] at F z2 z3 z4 z5;have s0:∀ {I:Nat->Prop},as I w o w1 (dQ w o 0):=λ{I}=>gW o (by rw[<-A];exact z5);have f:∀ j,dQ w o 0 (g+j)=0:=λj=>dY (by omega);have v:=S.stepO (s0 (I:=λ_=>False)) id;have U:=h.step (s0 (I:=λ_=>False)) noF;have X1:=X.step (s0 (I:=λ_=>False)) id;have S0:=s0 (I:=I17);have p:Blk w1 (dQ w o 0) 0 g (.cells #[pt0 rb] 82):=⟨F,f 0⟩;have q:Blk w1 (dQ w o 0) 0 (g+1) (zNv 1 n nm ao ks.len cap):=⟨z2,f 1⟩;have m:Blk w1 (dQ w o 0) 0 (g+2) (.cells #[.int .i64 ar,.int .i64 u] 86):=⟨z3,f 2⟩;generalize dQ w o 0=c at *;have HG:=Hg A;have E:Hid (∀ w' o',as I17 w1 c w' o'->Bx w' g rb 1 n nm (.slice ao ks.len cap) ar u):=λw' o' S=>⟨eT (p.step S dZ).1,(dW (q.step S dZ).1).1,(eh (m.step S dZ).1).1,(eh (m.step S dZ).1).2⟩;obtain⟨c0,⟨m0,m1,m2,m3⟩,a0,a1⟩:=E.out _ _ (as.refl I17 w1 c);obtain⟨d0,⟨f0,f1,f2,f3⟩,e0,e1⟩:=E.out _ _ ((as.refl I17 w1 c).drew);have SD:as I17 w1 c w1.drew c:=(as.refl _ w1 c).drew;have dF:as (λ_=>False) w1 c w1.drew c:=(as.refl _ w1 c).drew;have L:=Hg D;have K:=Hg C;clear s0 f F z2 z3 z4 z5 h X S A D C J;have G:=kt nc (ks.size+1) ⟨1,n,nm,a,ks⟩ ao cap w1.drew (by show ks.size < _;omega) Y (v.stepO dF id).all;rw[dR,ad] at G;simp only at G;have HC:∀ w2,Hf w1.drew.heap.size w1.drew w2->Hn G5 74 #[.pointer (G1 ⟨rb,0,G0⟩),.int .i64 n,.int .i64 1,spV ar u] w2 (mW w2 c rb lv (s.con n 1 u) (.tuple #[])):=λw2 B=>fs n 1 ar u w2 c rb lv ls s Y.1.2.2.2 (by omega) (by omega) hd (by omega) ((X1.step dF id).below B) ((U.step dF noF).below B);clear P ad p q m v U H;go_enter JG,Jy;go_upto_region 1 with fail;rw[<-i,<-HG.out];clear i;go_upto_region 10 with fail;go_region_held3 (λwx=>wx.cell? ⟨g,0,G0⟩=G1 (pt0 rb)/\(wx.cell? ⟨g+1,0,G0⟩=G1 (.int .i64 1)/\wx.cell? ⟨g+1,1,G0⟩=G1 (.int .i64 n)/\wx.cell? ⟨g+1,2,G0⟩=G1 (stv nm)/\wx.cell? ⟨g+1,3,G0⟩=G1 (.slice ao ks.len cap))/\wx.cell? ⟨g+2,0,G0⟩=G1 (.int .i64 ar)/\wx.cell? ⟨g+2,1,G0⟩=G1 (.int .i64 u)) (go_keep) (first|(go_at_call 75;refine G.mono ?_;rintro z w2 ⟨rfl,B2⟩;have S2:=SD.trans (as.ofBelow (I:=I17) c B2);obtain⟨d0,⟨f0,f1,f2,f3⟩,e0,e1⟩:=E.out _ _ S2;have HF:=HC w2 B2)|(go_at_call 74;refine HF.mono ?_;rintro z w3 ⟨rfl,V,E3,M⟩;obtain⟨d0,⟨f0,f1,f2,f3⟩,e0,e1⟩:=E.out _ _ (S2.trans M)))
  all_goals
   go_wp2
   go_end0
   exact⟨rfl,⟨V,E3,(S0.trans S2).trans M⟩,(iK s n 1 u (by omega)).le (by omega)⟩
 by_cases h2:k=2
 ·subst h2;have P:emE ls ⟨2,n,nm,a,ks⟩ ar u s=s.con n 2 u:=by simp[emE,prt]
  rw[P];have ad:kdE ⟨2,n,nm,a,ks⟩=2:=by simp[kdE,kdN]
  obtain⟨g,A⟩:=exq w.heap.size;obtain⟨w1,i⟩:=exq (((w.alloc (.cells #[pt0 rb] 82)).alloc (zNv 2 n nm ao ks.len cap)).alloc (.cells #[.int .i64 ar,.int .i64 u] 86));obtain⟨F,z2,z3,z4,z5⟩:=al3 w (.cells #[pt0 rb] 82) (zNv 2 n nm ao ks.len cap) (.cells #[.int .i64 ar,.int .i64 u] 86);rw[<-i,<-A] at F z2 z3 z4 z5;have s0:∀ {I:Nat->Prop},as I w o w1 (dQ w o 0):=λ{I}=>gW o (by rw[<-A];exact z5);have f:∀ j,dQ w o 0 (g+j)=0:=λj=>dY (by omega);have v:=S.stepO (s0 (I:=λ_=>False)) id;have U:=h.step (s0 (I:=λ_=>False)) noF;have X1:=X.step (s0 (I:=λ_=>False)) id;have S0:=s0 (I:=I17);have p:Blk w1 (dQ w o 0) 0 g (.cells #[pt0 rb] 82):=⟨F,f 0⟩;have q:Blk w1 (dQ w o 0) 0 (g+1) (zNv 2 n nm ao ks.len cap):=⟨z2,f 1⟩;have m:Blk w1 (dQ w o 0) 0 (g+2) (.cells #[.int .i64 ar,.int .i64 u] 86):=⟨z3,f 2⟩;generalize dQ w o 0=c at *;have HG:=Hg A;have E:Hid (∀ w' o',as I17 w1 c w' o'->Bx w' g rb 2 n nm (.slice ao ks.len cap) ar u):=λw' o' S=>⟨eT (p.step S dZ).1,(dW (q.step S dZ).1).1,(eh (m.step S dZ).1).1,(eh (m.step S dZ).1).2⟩;obtain⟨c0,⟨m0,m1,m2,m3⟩,a0,a1⟩:=E.out _ _ (as.refl I17 w1 c);obtain⟨d0,⟨f0,f1,f2,f3⟩,e0,e1⟩:=E.out _ _ ((as.refl I17 w1 c).drew);have SD:as I17 w1 c w1.drew c:=(as.refl _ w1 c).drew;have dF:as (λ_=>False) w1 c w1.drew c:=(as.refl _ w1 c).drew;have L:=Hg D;have K:=Hg C;clear s0 f F z2 z3 z4 z5 h X S A D C J;have G:=kt nc (ks.size+1) ⟨2,n,nm,a,ks⟩ ao cap w1.drew (by show ks.size < _;omega) Y (v.stepO dF id).all;rw[dR,ad] at G;simp only at G;have HC:∀ w2,Hf w1.drew.heap.size w1.drew w2->Hn G5 74 #[.pointer (G1 ⟨rb,0,G0⟩),.int .i64 n,.int .i64 2,spV ar u] w2 (mW w2 c rb lv (s.con n 2 u) (.tuple #[])):=λw2 B=>fs n 2 ar u w2 c rb lv ls s Y.1.2.2.2 (by omega) (by omega) hd (by omega) ((X1.step dF id).below B) ((U.step dF noF).below B);clear P ad p q m v U H;go_enter JG,Jy;go_upto_region 1 with fail;rw[<-i,<-HG.out];clear i;go_upto_region 10 with fail;go_region_held3 (λwx=>wx.cell? ⟨g,0,G0⟩=G1 (pt0 rb)/\(wx.cell? ⟨g+1,0,G0⟩=G1 (.int .i64 2)/\wx.cell? ⟨g+1,1,G0⟩=G1 (.int .i64 n)/\wx.cell? ⟨g+1,2,G0⟩=G1 (stv nm)/\wx.cell? ⟨g+1,3,G0⟩=G1 (.slice ao ks.len cap))/\wx.cell? ⟨g+2,0,G0⟩=G1 (.int .i64 ar)/\wx.cell? ⟨g+2,1,G0⟩=G1 (.int .i64 u)) (go_keep) (first|(go_at_call 75;refine G.mono ?_;rintro z w2 ⟨rfl,B2⟩;have S2:=SD.trans (as.ofBelow (I:=I17) c B2);obtain⟨d0,⟨f0,f1,f2,f3⟩,e0,e1⟩:=E.out _ _ S2;have HF:=HC w2 B2)|(go_at_call 74;refine HF.mono ?_;rintro z w3 ⟨rfl,V,E3,M⟩;obtain⟨d0,⟨f0,f1,f2,f3⟩,e0,e1⟩:=E.out _ _ (S2.trans M)))
  all_goals
   go_wp2
   go_end0
   exact⟨rfl,⟨V,E3,(S0.trans S2).trans M⟩,(iK s n 2 u (by omega)).le (by omega)⟩
 by_cases h3:k=3
 ·subst h3;have P:emE ls ⟨3,n,nm,a,ks⟩ ar u s=(s.kc n).push 2 (s.cs.idxOf n) 0 u:=by simp[emE,prt]
  rw[P];obtain⟨g,A⟩:=exq w.heap.size;obtain⟨w1,i⟩:=exq (((w.alloc (.cells #[pt0 rb] 82)).alloc (zNv 3 n nm ao ks.len cap)).alloc (.cells #[.int .i64 ar,.int .i64 u] 86));obtain⟨F,z2,z3,z4,z5⟩:=al3 w (.cells #[pt0 rb] 82) (zNv 3 n nm ao ks.len cap) (.cells #[.int .i64 ar,.int .i64 u] 86);rw[<-i,<-A] at F z2 z3 z4 z5;have s0:∀ {I:Nat->Prop},as I w o w1 (dQ w o 0):=λ{I}=>gW o (by rw[<-A];exact z5);have f:∀ j,dQ w o 0 (g+j)=0:=λj=>dY (by omega);have v:=S.stepO (s0 (I:=λ_=>False)) id;have U:=h.step (s0 (I:=λ_=>False)) noF;have X1:=X.step (s0 (I:=λ_=>False)) id;have S0:=s0 (I:=I17);have p:Blk w1 (dQ w o 0) 0 g (.cells #[pt0 rb] 82):=⟨F,f 0⟩;have q:Blk w1 (dQ w o 0) 0 (g+1) (zNv 3 n nm ao ks.len cap):=⟨z2,f 1⟩;have m:Blk w1 (dQ w o 0) 0 (g+2) (.cells #[.int .i64 ar,.int .i64 u] 86):=⟨z3,f 2⟩;generalize dQ w o 0=c at *;have HG:=Hg A;have E:Hid (∀ w' o',as I17 w1 c w' o'->Bx w' g rb 3 n nm (.slice ao ks.len cap) ar u):=λw' o' S=>⟨eT (p.step S dZ).1,(dW (q.step S dZ).1).1,(eh (m.step S dZ).1).1,(eh (m.step S dZ).1).2⟩;obtain⟨c0,⟨m0,m1,m2,m3⟩,a0,a1⟩:=E.out _ _ (as.refl I17 w1 c);obtain⟨d0,⟨f0,f1,f2,f3⟩,e0,e1⟩:=E.out _ _ ((as.refl I17 w1 c).drew);have SD:as I17 w1 c w1.drew c:=(as.refl _ w1 c).drew;have dF:as (λ_=>False) w1 c w1.drew c:=(as.refl _ w1 c).drew;have L:=Hg D;have K:=Hg C;clear s0 f F z2 z3 z4 z5 h X S A D C J;have G:=xi n w1.drew c rb lv ls s Y.1.2.2.2 (by omega) (X1.step dF id) (U.step dF noF);have aJ:s.cs.idxOf n<=268435455:=by
   have:=List.idxOf_le_length (a:=n) (l:=s.cs)
   unfold Em.mes at hm;omega
  have gk:=F9 s n;have HC:∀ w2 o2,as I17 w1.drew c w2 o2->EmW w2 o2 rb lv (s.kc n)->Hn G5 76 #[.pointer (G1 ⟨rb,0,G0⟩),.int .i64 2,.int .i64 (s.cs.idxOf n:Nat),.int .i64 0,spV ar u] w2 (mW w2 o2 rb lv ((s.kc n).push 2 (s.cs.idxOf n) 0 u) (.tuple #[])):=λw2 o2 S2 E2=>vb 2 (s.cs.idxOf n) 0 ar u w2 o2 rb lv ls (s.kc n) (by omega) aJ (by omega) (by omega) (gk.dp hd) (by have:=gk.mes;omega) ((X1.step dF id).step S2 dZ) E2;clear P p q m v U H;go_enter JG,Jy;go_upto_region 1 with fail;rw[<-i,<-HG.out];clear i;go_upto_region 12 with fail;go_region_held3 (λwx=>wx.cell? ⟨g,0,G0⟩=G1 (pt0 rb)/\wx.cell? ⟨g+1,1,G0⟩=G1 (.int .i64 n)/\wx.cell? ⟨g+2,0,G0⟩=G1 (.int .i64 ar)/\wx.cell? ⟨g+2,1,G0⟩=G1 (.int .i64 u)) (go_keep) (first|(go_at_call 77;refine G.mono ?_;rintro z w2 ⟨rfl,o2,E2,S2⟩;have M:=SD.trans S2;obtain⟨d0,⟨f0,f1,f2,f3⟩,e0,e1⟩:=E.out _ _ M;have HF:=HC w2 o2 S2 E2)|(go_at_call 76;refine HF.mono ?_;rintro z w3 ⟨rfl,V,E3,S4⟩;obtain⟨d0,⟨f0,f1,f2,f3⟩,e0,e1⟩:=E.out _ _ (M.trans S4)))
  all_goals
   go_wp2
   go_end0
   exact⟨rfl,⟨V,E3,(S0.trans M).trans S4⟩,(gk.trans (vJ _ 2 _ 0 u (by omega))).le (by omega)⟩
 by_cases h5:k=5
 ·subst h5;have hn:=J.2.2.2.2.2.1 (Jp rfl);have a3:n<=3:=Y.1.2.1 rfl;obtain⟨n0,aC⟩:∃n0:Nat,(n0:Int)=n:=⟨n.toNat,by omega⟩;subst aC;have P:emE ls ⟨5,(n0:Int),nm,a,ks⟩ ar u s=s.push 3 n0 0 u:=by simp[emE,prt]
  rw[P];obtain⟨g,A⟩:=exq w.heap.size;obtain⟨w1,i⟩:=exq (((w.alloc (.cells #[pt0 rb] 82)).alloc (zNv 5 (n0:Int) nm ao ks.len cap)).alloc (.cells #[.int .i64 ar,.int .i64 u] 86));obtain⟨F,z2,z3,z4,z5⟩:=al3 w (.cells #[pt0 rb] 82) (zNv 5 (n0:Int) nm ao ks.len cap) (.cells #[.int .i64 ar,.int .i64 u] 86);rw[<-i,<-A] at F z2 z3 z4 z5;have s0:∀ {I:Nat->Prop},as I w o w1 (dQ w o 0):=λ{I}=>gW o (by rw[<-A];exact z5);have f:∀ j,dQ w o 0 (g+j)=0:=λj=>dY (by omega);have v:=S.stepO (s0 (I:=λ_=>False)) id;have U:=h.step (s0 (I:=λ_=>False)) noF;have X1:=X.step (s0 (I:=λ_=>False)) id;have S0:=s0 (I:=I17);have p:Blk w1 (dQ w o 0) 0 g (.cells #[pt0 rb] 82):=⟨F,f 0⟩;have q:Blk w1 (dQ w o 0) 0 (g+1) (zNv 5 (n0:Int) nm ao ks.len cap):=⟨z2,f 1⟩;have m:Blk w1 (dQ w o 0) 0 (g+2) (.cells #[.int .i64 ar,.int .i64 u] 86):=⟨z3,f 2⟩;generalize dQ w o 0=c at *;have HG:=Hg A;have E:Hid (∀ w' o',as I17 w1 c w' o'->Bx w' g rb 5 (n0:Int) nm (.slice ao ks.len cap) ar u):=λw' o' S=>⟨eT (p.step S dZ).1,(dW (q.step S dZ).1).1,(eh (m.step S dZ).1).1,(eh (m.step S dZ).1).2⟩;obtain⟨c0,⟨m0,m1,m2,m3⟩,a0,a1⟩:=E.out _ _ (as.refl I17 w1 c);obtain⟨d0,⟨f0,f1,f2,f3⟩,e0,e1⟩:=E.out _ _ ((as.refl I17 w1 c).drew);have SD:as I17 w1 c w1.drew c:=(as.refl _ w1 c).drew;have dF:as (λ_=>False) w1 c w1.drew c:=(as.refl _ w1 c).drew;have L:=Hg D;have K:=Hg C;clear s0 f F z2 z3 z4 z5 h X S A D C J;have G:=vb 3 n0 0 ar u w1 c rb lv ls s (by omega) (by omega) (by omega) (by omega) hd (by omega) X1 U;clear P p q m v U H;go_enter JG,Jy;go_upto_region 1 with fail;rw[<-i,<-HG.out];clear i;go_wp2_with (first|(go_at_call 76;refine G.mono ?_;rintro z w3 ⟨rfl,V,E3,M⟩))
  go_end0
  exact⟨rfl,⟨V,E3,S0.trans M⟩,(vJ s 3 n0 0 u (by omega)).le (by omega)⟩
 by_cases aj:k=17
 ·subst aj;have R:ks.len=2:=J.2.2.1 (by omega) (by omega);obtain⟨x,y,T⟩:=iz R;subst T;simp only[eG] at hN hm hu Z;have P:emE ls ⟨17,n,nm,a,Fs.ex x (Fs.ex y .nil)⟩ ar u s=(emE ls x ar u s).fork 14 (emE ls y ar u) (λt=>t.con (0:Nat) 2 u):=by show prt ls 17 n nm _ (emE ls x::emE ls y::[]) ar u s=_;simp[prt]
  rw[P];have Q:(Fs.ex x (Fs.ex y .nil)).size=x.kids.size+y.kids.size+2:=by simp only[eG,Fs.size]<;>omega
  rw[Q];have O:Fs.nil.size=0:=rfl;rw[O] at hN hm hu Z;obtain⟨g,A⟩:=exq w.heap.size;obtain⟨w1,i⟩:=exq (((w.alloc (.cells #[pt0 rb] 82)).alloc (.cells #[.int .i64 17,.int .i64 n,stv nm,.slice ao (Fs.ex x (Fs.ex y .nil)).len cap] 34)).alloc (.cells #[.int .i64 ar,.int .i64 u] 86));obtain⟨F,z2,z3,z4,z5⟩:=al3 w (.cells #[pt0 rb] 82) (.cells #[.int .i64 17,.int .i64 n,stv nm,.slice ao (Fs.ex x (Fs.ex y .nil)).len cap] 34) (.cells #[.int .i64 ar,.int .i64 u] 86);rw[<-i,<-A] at F z2 z3 z4 z5;have s0:∀ {I:Nat->Prop},as I w o w1 (dQ w o 0):=λ{I}=>gW o (by rw[<-A];exact z5);have f:∀ j,dQ w o 0 (g+j)=0:=λj=>dY (by omega);have v:=S.stepO (s0 (I:=λ_=>False)) id;have U:=h.step (s0 (I:=λ_=>False)) noF;have X1:=X.step (s0 (I:=λ_=>False)) id;have S0:=s0 (I:=I17);have p:Blk w1 (dQ w o 0) 0 g (.cells #[pt0 rb] 82):=⟨F,f 0⟩;have q:Blk w1 (dQ w o 0) 0 (g+1) (.cells #[.int .i64 17,.int .i64 n,stv nm,.slice ao (Fs.ex x (Fs.ex y .nil)).len cap] 34):=⟨z2,f 1⟩;have m:Blk w1 (dQ w o 0) 0 (g+2) (.cells #[.int .i64 ar,.int .i64 u] 86):=⟨z3,f 2⟩;generalize dQ w o 0=c at *;have HG:=Hg A;have E:Hid (∀ w' o',as I17 w1 c w' o'->Bx w' g rb 17 n nm (.slice ao (Fs.ex x (Fs.ex y .nil)).len cap) ar u):=λw' o' S=>⟨eT (p.step S dZ).1,(dW (q.step S dZ).1).1,(eh (m.step S dZ).1).1,(eh (m.step S dZ).1).2⟩;obtain⟨c0,⟨m0,m1,m2,m3⟩,a0,a1⟩:=E.out _ _ (as.refl I17 w1 c);obtain⟨d0,⟨f0,f1,f2,f3⟩,e0,e1⟩:=E.out _ _ ((as.refl I17 w1 c).drew);have SD:as I17 w1 c w1.drew c:=(as.refl _ w1 c).drew;have dF:as (λ_=>False) w1 c w1.drew c:=(as.refl _ w1 c).drew;have L:=Hg D;have K:=Hg C;clear s0 f F z2 z3 z4 z5 h X S A D C J;have G:=y8 nc N ih 17 n nm a x y ao cap 14 0 ar u w1 c rb lv ls s (by omega) (by omega) H (by omega) (by omega) K.out aa (by omega) (by omega) v L.out (by omega) hd X1 U;rw[dR] at G;simp only at G;clear P p q m v U H R Q O;go_enter JG,Jy;go_upto_region 1 with fail;rw[<-i,<-HG.out];clear i;go_wp2_with (first|(go_at_call 78;refine G.mono ?_;rintro z w3 ⟨rfl,⟨V,E3,M⟩,g3⟩))
  go_end0
  exact⟨rfl,⟨V,E3,S0.trans M⟩,g3.le (by omega)⟩
 by_cases ai:k=18
 ·subst ai;have R:ks.len=2:=J.2.2.1 (by omega) (by omega);obtain⟨x,y,T⟩:=iz R;subst T;simp only[eG] at hN hm hu Z;have P:emE ls ⟨18,n,nm,a,Fs.ex x (Fs.ex y .nil)⟩ ar u s=(emE ls x ar u s).fork 15 (emE ls y ar u) (λt=>t.con (1:Nat) 2 u):=by show prt ls 18 n nm _ (emE ls x::emE ls y::[]) ar u s=_;simp[prt]
  rw[P];have Q:(Fs.ex x (Fs.ex y .nil)).size=x.kids.size+y.kids.size+2:=by simp only[eG,Fs.size]<;>omega
  rw[Q];have O:Fs.nil.size=0:=rfl;rw[O] at hN hm hu Z;obtain⟨g,A⟩:=exq w.heap.size;obtain⟨w1,i⟩:=exq (((w.alloc (.cells #[pt0 rb] 82)).alloc (.cells #[.int .i64 18,.int .i64 n,stv nm,.slice ao (Fs.ex x (Fs.ex y .nil)).len cap] 34)).alloc (.cells #[.int .i64 ar,.int .i64 u] 86));obtain⟨F,z2,z3,z4,z5⟩:=al3 w (.cells #[pt0 rb] 82) (.cells #[.int .i64 18,.int .i64 n,stv nm,.slice ao (Fs.ex x (Fs.ex y .nil)).len cap] 34) (.cells #[.int .i64 ar,.int .i64 u] 86);rw[<-i,<-A] at F z2 z3 z4 z5;have s0:∀ {I:Nat->Prop},as I w o w1 (dQ w o 0):=λ{I}=>gW o (by rw[<-A];exact z5);have f:∀ j,dQ w o 0 (g+j)=0:=λj=>dY (by omega);have v:=S.stepO (s0 (I:=λ_=>False)) id;have U:=h.step (s0 (I:=λ_=>False)) noF;have X1:=X.step (s0 (I:=λ_=>False)) id;have S0:=s0 (I:=I17);have p:Blk w1 (dQ w o 0) 0 g (.cells #[pt0 rb] 82):=⟨F,f 0⟩;have q:Blk w1 (dQ w o 0) 0 (g+1) (.cells #[.int .i64 18,.int .i64 n,stv nm,.slice ao (Fs.ex x (Fs.ex y .nil)).len cap] 34):=⟨z2,f 1⟩;have m:Blk w1 (dQ w o 0) 0 (g+2) (.cells #[.int .i64 ar,.int .i64 u] 86):=⟨z3,f 2⟩;generalize dQ w o 0=c at *;have HG:=Hg A;have E:Hid (∀ w' o',as I17 w1 c w' o'->Bx w' g rb 18 n nm (.slice ao (Fs.ex x (Fs.ex y .nil)).len cap) ar u):=λw' o' S=>⟨eT (p.step S dZ).1,(dW (q.step S dZ).1).1,(eh (m.step S dZ).1).1,(eh (m.step S dZ).1).2⟩;obtain⟨c0,⟨m0,m1,m2,m3⟩,a0,a1⟩:=E.out _ _ (as.refl I17 w1 c);obtain⟨d0,⟨f0,f1,f2,f3⟩,e0,e1⟩:=E.out _ _ ((as.refl I17 w1 c).drew);have SD:as I17 w1 c w1.drew c:=(as.refl _ w1 c).drew;have dF:as (λ_=>False) w1 c w1.drew c:=(as.refl _ w1 c).drew;have L:=Hg D;have K:=Hg C;clear s0 f F z2 z3 z4 z5 h X S A D C J;have G:=y8 nc N ih 18 n nm a x y ao cap 15 1 ar u w1 c rb lv ls s (by omega) (by omega) H (by omega) (by omega) K.out aa (by omega) (by omega) v L.out (by omega) hd X1 U;rw[dR] at G;simp only at G;clear P p q m v U H R Q O;go_enter JG,Jy;go_upto_region 1 with fail;rw[<-i,<-HG.out];clear i;go_wp2_with (first|(go_at_call 78;refine G.mono ?_;rintro z w3 ⟨rfl,⟨V,E3,M⟩,g3⟩))
  go_end0
  exact⟨rfl,⟨V,E3,S0.trans M⟩,g3.le (by omega)⟩
 by_cases ah:k=19
 ·subst ah;have R:ks.len=3:=J.1 rfl;obtain⟨x,y,z,T⟩:=kX R;subst T;simp only[eG] at hN hm hu Z;have P:emE ls ⟨19,n,nm,a,Fs.ex x (Fs.ex y (Fs.ex z .nil))⟩ ar u s=(emE ls x ar u s).fork 14 (emE ls y ar u) (emE ls z ar u):=by show prt ls 19 n nm _ (emE ls x::emE ls y::emE ls z::[]) ar u s=_;simp[prt]
  rw[P];have Q:(Fs.ex x (Fs.ex y (Fs.ex z .nil))).size=x.kids.size+y.kids.size+z.kids.size+3:=by simp only[eG,Fs.size]<;>omega
  rw[Q];have O:Fs.nil.size=0:=rfl;rw[O] at hN hm hu Z;have al:(Fs.ex x (Fs.ex y (Fs.ex z .nil))).len=3:=rfl;have a4:∀ (fn:Fn) (first cap:Array He) (w:G9),(Instr.makeFunc fn first cap).run G5 w=.ok (.func fn first cap) w:=λ_ _ _ _=>rfl;obtain⟨g,A⟩:=exq w.heap.size;obtain⟨w1,i⟩:=exq (((w.alloc (.cells #[pt0 rb] 82)).alloc (.cells #[.int .i64 19,.int .i64 n,stv nm,.slice ao (Fs.ex x (Fs.ex y (Fs.ex z .nil))).len cap] 34)).alloc (.cells #[.int .i64 ar,.int .i64 u] 86));obtain⟨F,z2,z3,z4,z5⟩:=al3 w (.cells #[pt0 rb] 82) (.cells #[.int .i64 19,.int .i64 n,stv nm,.slice ao (Fs.ex x (Fs.ex y (Fs.ex z .nil))).len cap] 34) (.cells #[.int .i64 ar,.int .i64 u] 86);rw[<-i,<-A] at F z2 z3 z4 z5;have s0:∀ {I:Nat->Prop},as I w o w1 (dQ w o 0):=λ{I}=>gW o (by rw[<-A];exact z5);have f:∀ j,dQ w o 0 (g+j)=0:=λj=>dY (by omega);have v:=S.stepO (s0 (I:=λ_=>False)) id;have U:=h.step (s0 (I:=λ_=>False)) noF;have X1:=X.step (s0 (I:=λ_=>False)) id;have S0:=s0 (I:=I17);have p:Blk w1 (dQ w o 0) 0 g (.cells #[pt0 rb] 82):=⟨F,f 0⟩;have q:Blk w1 (dQ w o 0) 0 (g+1) (.cells #[.int .i64 19,.int .i64 n,stv nm,.slice ao (Fs.ex x (Fs.ex y (Fs.ex z .nil))).len cap] 34):=⟨z2,f 1⟩;have m:Blk w1 (dQ w o 0) 0 (g+2) (.cells #[.int .i64 ar,.int .i64 u] 86):=⟨z3,f 2⟩;generalize dQ w o 0=c at *;have HG:=Hg A;have E:Hid (∀ w' o',as I17 w1 c w' o'->Bx w' g rb 19 n nm (.slice ao (Fs.ex x (Fs.ex y (Fs.ex z .nil))).len cap) ar u):=λw' o' S=>⟨eT (p.step S dZ).1,(dW (q.step S dZ).1).1,(eh (m.step S dZ).1).1,(eh (m.step S dZ).1).2⟩;obtain⟨c0,⟨m0,m1,m2,m3⟩,a0,a1⟩:=E.out _ _ (as.refl I17 w1 c);obtain⟨d0,⟨f0,f1,f2,f3⟩,e0,e1⟩:=E.out _ _ ((as.refl I17 w1 c).drew);have SD:as I17 w1 c w1.drew c:=(as.refl _ w1 c).drew;have dF:as (λ_=>False) w1 c w1.drew c:=(as.refl _ w1 c).drew;have L:=Hg D;have K:=Hg C;clear s0 f F z2 z3 z4 z5 h X S A D C J;obtain⟨b,off,ak,ck,rfl,-,Sy,NK⟩:=ij (x:=.nil) v 0 rfl;have HC:=ih x ak ck ar u w1.drew c rb lv ls s (by omega) (et H).1 K.out aa (Sy.stepO dF id) L.out (by omega) (by omega) (by omega) hd (X1.step dF id) (U.step dF noF);rw[dR] at HC;have CX:Hid (∀ w' o',as I17 w1 c w' o'->Cx rb g (g+1) (g+2) 19 n nm (Fs.ex x (Fs.ex y (Fs.ex z .nil))) (G1 ⟨b,off,G0⟩) cap ar u w' o'):=λw' o' S=>⟨p.step S dZ,q.step S dZ,m.step S dZ,v.stepO S dZ⟩;have NN:Hid (∀ w' o',as I17 w1 c w' o'->Nd4 w' b off x ak ck):=λw' o' S=>NK S dZ;have FK:∀ w2 o2 s2,Cx rb g (g+1) (g+2) 19 n nm (Fs.ex x (Fs.ex y (Fs.ex z .nil))) (G1 ⟨b,off,G0⟩) cap ar u w2 o2->EmX w2 o2 lv ls->EmW w2 o2 rb lv s2->s2.mes+(300*(y.kids.size+1)+300*(z.kids.size+1)+2)<=100000000->s2.dp<=1000000001->s2.ks.length=ls.length->_:=λw2 o2 s2 K2 X2 E2 aD aK aI =>
   tS 14 80 81 #[pt0 g,pt0 (g+1),pt0 (g+2)] #[pt0 g,pt0 (g+1),pt0 (g+2)] (emE ls y ar u) (emE ls z ar u) (300*(y.kids.size+1)) (300*(z.kids.size+1)) _ (Cx.keeps _ _ _ _ _ _ _ _ _ _ _ _) Fr Fo w2 o2 rb lv ls (zL nc N ih rb g (g+1) (g+2) 19 n nm x y z (G1 ⟨b,off,G0⟩) cap ar u lv ls H (by omega) K.out aa (by omega) (by omega)) (zw nc N ih rb g (g+1) (g+2) 19 n nm x y z (G1 ⟨b,off,G0⟩) cap ar u lv ls H (by omega) K.out aa (by omega) (by omega)) s2 (by omega) aD aK aI X2 E2 K2
  obtain⟨x0,x1,x2,x3⟩:=NN.out _ _ (as.refl I17 w1 c);obtain⟨y0,y1,y2,y3⟩:=NN.out _ _ SD;rw[al] at i m3 f3 E ⊢;clear P p q m v U R Q O al Sy NK;go_enter JG,Jy;go_upto_region 1 with fail;rw[<-i,<-HG.out];clear i;go_upto_region 20 with fail;go_region_held3 (λwx=>wx.cell? ⟨g,0,G0⟩=G1 (pt0 rb)/\wx.cell? ⟨g+1,3,G0⟩=G1 (.slice (G1 ⟨b,off,G0⟩) 3 cap)/\(wx.cell? ⟨b,off,G0⟩=G1 (.int .i64 x.k)/\wx.cell? ⟨b,off+1,G0⟩=G1 (.int .i64 x.n)/\wx.cell? ⟨b,off+2,G0⟩=G1 (stv x.nm)/\wx.cell? ⟨b,off+3,G0⟩=G1 (.slice ak x.kids.len ck))/\wx.cell? ⟨g+2,0,G0⟩=G1 (.int .i64 ar)/\wx.cell? ⟨g+2,1,G0⟩=G1 (.int .i64 u)) (go_keep) (first|(go_at_call 40;refine HC.mono ?_;rintro z2 w2 ⟨rfl,⟨o2,E2,S2⟩,g2⟩;have M:=SD.trans S2;obtain⟨d0,⟨f0,f1,f2,f3⟩,e0,e1⟩:=E.out _ _ M;obtain⟨y0,y1,y2,y3⟩:=NN.out _ _ M))
  all_goals
   have HF:=FK w2 o2 _ (CX.out _ _ M) (X1.step M dZ) E2 (by have:=g2.mes;omega) (g2.dp hd) (g2.ks.trans L.out);clear FK HC E CX NN;go_wp2_with (first|(go_at_call 79;refine HF.mono ?_;rintro z2 w4 ⟨rfl,⟨o4,E4,S4⟩,g4⟩))
   go_end0
   exact⟨rfl,⟨o4,E4,(S0.trans M).trans S4⟩,(g2.trans g4).le (by omega)⟩
 by_cases af:k=26
 ·subst af;have R:ks.len=1:=J.2.1 rfl;obtain⟨x,T⟩:=mL R;subst T;simp only[eG] at hN hm hu Z;have P:emE ls ⟨26,n,nm,a,Fs.ex x .nil⟩ ar u s=((emE ls x ar u ((s.cel n.toNat (kdE x)).lay 17 n.toNat 0)).lay 18 n.toNat 0).land s.ws.length:=by show prt ls 26 n nm (kdE x::[]) (emE ls x::[]) ar u s=_;simp[prt]
  rw[P];have Q:(Fs.ex x .nil).size=x.kids.size+1:=by simp only[eG,Fs.size]<;>omega
  rw[Q];have O:Fs.nil.size=0:=rfl;rw[O] at hN hm hu Z;obtain⟨g,A⟩:=exq w.heap.size;obtain⟨w1,i⟩:=exq (((w.alloc (.cells #[pt0 rb] 82)).alloc (.cells #[.int .i64 26,.int .i64 n,stv nm,.slice ao (Fs.ex x .nil).len cap] 34)).alloc (.cells #[.int .i64 ar,.int .i64 u] 86));obtain⟨F,z2,z3,z4,z5⟩:=al3 w (.cells #[pt0 rb] 82) (.cells #[.int .i64 26,.int .i64 n,stv nm,.slice ao (Fs.ex x .nil).len cap] 34) (.cells #[.int .i64 ar,.int .i64 u] 86);rw[<-i,<-A] at F z2 z3 z4 z5;have s0:∀ {I:Nat->Prop},as I w o w1 (dQ w o 0):=λ{I}=>gW o (by rw[<-A];exact z5);have f:∀ j,dQ w o 0 (g+j)=0:=λj=>dY (by omega);have v:=S.stepO (s0 (I:=λ_=>False)) id;have U:=h.step (s0 (I:=λ_=>False)) noF;have X1:=X.step (s0 (I:=λ_=>False)) id;have S0:=s0 (I:=I17);have p:Blk w1 (dQ w o 0) 0 g (.cells #[pt0 rb] 82):=⟨F,f 0⟩;have q:Blk w1 (dQ w o 0) 0 (g+1) (.cells #[.int .i64 26,.int .i64 n,stv nm,.slice ao (Fs.ex x .nil).len cap] 34):=⟨z2,f 1⟩;have m:Blk w1 (dQ w o 0) 0 (g+2) (.cells #[.int .i64 ar,.int .i64 u] 86):=⟨z3,f 2⟩;generalize dQ w o 0=c at *;have HG:=Hg A;have E:Hid (∀ w' o',as I17 w1 c w' o'->Bx w' g rb 26 n nm (.slice ao (Fs.ex x .nil).len cap) ar u):=λw' o' S=>⟨eT (p.step S dZ).1,(dW (q.step S dZ).1).1,(eh (m.step S dZ).1).1,(eh (m.step S dZ).1).2⟩;obtain⟨c0,⟨m0,m1,m2,m3⟩,a0,a1⟩:=E.out _ _ (as.refl I17 w1 c);obtain⟨d0,⟨f0,f1,f2,f3⟩,e0,e1⟩:=E.out _ _ ((as.refl I17 w1 c).drew);have SD:as I17 w1 c w1.drew c:=(as.refl _ w1 c).drew;have dF:as (λ_=>False) w1 c w1.drew c:=(as.refl _ w1 c).drew;have L:=Hg D;have K:=Hg C;clear s0 f F z2 z3 z4 z5 h X S A D C J;have G:=EC nc N ih n nm a x ao cap ar u w1 c rb lv ls s Y (by omega) K.out aa (by omega) (by omega) v L.out (by omega) hd X1 U;rw[dR] at G;simp only at G;clear P p q m v U H R Q O;go_enter JG,Jy;go_upto_region 1 with fail;rw[<-i,<-HG.out];clear i;go_wp2_with (first|(go_at_call 82;refine G.mono ?_;rintro z w3 ⟨rfl,⟨V,E3,M⟩,g3⟩))
  go_end0
  exact⟨rfl,⟨V,E3,S0.trans M⟩,g3.le (by omega)⟩
 by_cases ag:k=21
 ·subst ag;obtain⟨R,hn⟩:=J.2.2.2.1 rfl;obtain⟨x,y,T⟩:=iz R;subst T;simp only[eG] at hN hm hu Z;have P:emE ls ⟨21,n,nm,a,Fs.ex x (Fs.ex y .nil)⟩ ar u s=qua ls n (emE ls x) (emE ls y) ar u s:=by show prt ls 21 n nm _ (emE ls x::emE ls y::[]) ar u s=_;simp[prt]
  rw[P];have Q:(Fs.ex x (Fs.ex y .nil)).size=x.kids.size+y.kids.size+2:=by simp only[eG,Fs.size]<;>omega
  rw[Q];have O:Fs.nil.size=0:=rfl;rw[O] at hN hm hu Z;obtain⟨g,A⟩:=exq w.heap.size;obtain⟨w1,i⟩:=exq (((w.alloc (.cells #[pt0 rb] 82)).alloc (.cells #[.int .i64 21,.int .i64 n,stv nm,.slice ao (Fs.ex x (Fs.ex y .nil)).len cap] 34)).alloc (.cells #[.int .i64 ar,.int .i64 u] 86));obtain⟨F,z2,z3,z4,z5⟩:=al3 w (.cells #[pt0 rb] 82) (.cells #[.int .i64 21,.int .i64 n,stv nm,.slice ao (Fs.ex x (Fs.ex y .nil)).len cap] 34) (.cells #[.int .i64 ar,.int .i64 u] 86);rw[<-i,<-A] at F z2 z3 z4 z5;have s0:∀ {I:Nat->Prop},as I w o w1 (dQ w o 0):=λ{I}=>gW o (by rw[<-A];exact z5);have f:∀ j,dQ w o 0 (g+j)=0:=λj=>dY (by omega);have v:=S.stepO (s0 (I:=λ_=>False)) id;have U:=h.step (s0 (I:=λ_=>False)) noF;have X1:=X.step (s0 (I:=λ_=>False)) id;have S0:=s0 (I:=I17);have p:Blk w1 (dQ w o 0) 0 g (.cells #[pt0 rb] 82):=⟨F,f 0⟩;have q:Blk w1 (dQ w o 0) 0 (g+1) (.cells #[.int .i64 21,.int .i64 n,stv nm,.slice ao (Fs.ex x (Fs.ex y .nil)).len cap] 34):=⟨z2,f 1⟩;have m:Blk w1 (dQ w o 0) 0 (g+2) (.cells #[.int .i64 ar,.int .i64 u] 86):=⟨z3,f 2⟩;generalize dQ w o 0=c at *;have HG:=Hg A;have E:Hid (∀ w' o',as I17 w1 c w' o'->Bx w' g rb 21 n nm (.slice ao (Fs.ex x (Fs.ex y .nil)).len cap) ar u):=λw' o' S=>⟨eT (p.step S dZ).1,(dW (q.step S dZ).1).1,(eh (m.step S dZ).1).1,(eh (m.step S dZ).1).2⟩;obtain⟨c0,⟨m0,m1,m2,m3⟩,a0,a1⟩:=E.out _ _ (as.refl I17 w1 c);obtain⟨d0,⟨f0,f1,f2,f3⟩,e0,e1⟩:=E.out _ _ ((as.refl I17 w1 c).drew);have SD:as I17 w1 c w1.drew c:=(as.refl _ w1 c).drew;have dF:as (λ_=>False) w1 c w1.drew c:=(as.refl _ w1 c).drew;have L:=Hg D;have K:=Hg C;clear s0 f F z2 z3 z4 z5 h X S A D C J;have G:=Ct nc N ih n nm a x y ao cap ar u w1 c rb lv ls s hn H (by omega) (by omega) K.out aa (by omega) (by omega) v L.out (by omega) hd X1 U;rw[dR] at G;simp only at G;clear P p q m v U H R Q O;go_enter JG,Jy;go_upto_region 1 with fail;rw[<-i,<-HG.out];clear i;go_wp2_with (first|(go_at_call 83;refine G.mono ?_;rintro z w3 ⟨rfl,⟨V,E3,M⟩,g3⟩))
  go_end0
  exact⟨rfl,⟨V,E3,S0.trans M⟩,g3.le (by omega)⟩
 have aq:opK k:=by
  have aG:=gX Y.1.1;simp only at aG;unfold opK;omega
 have P:emE ls ⟨k,n,nm,a,ks⟩ ar u s=opr k n nm (kdF ks) (nF (emF ls ks) 0 ar u s):=by
  show prt ls k n nm (kdF ks) (emF ls ks) ar u s=_;unfold prt;rw[if_neg h1,if_neg h2,if_neg h3,if_neg h5,if_neg aj,if_neg ai,if_neg ah,if_neg af,if_neg ag]
 rw[P];obtain⟨W,hW⟩:=exq (nF (emF ls ks) 0 ar u s);rw[<-hW];have HW:=Hg hW;clear hW P;obtain⟨g,A⟩:=exq w.heap.size;obtain⟨w1,i⟩:=exq (((w.alloc (.cells #[pt0 rb] 82)).alloc (zNv k n nm ao ks.len cap)).alloc (.cells #[.int .i64 ar,.int .i64 u] 86));obtain⟨F,z2,z3,z4,z5⟩:=al3 w (.cells #[pt0 rb] 82) (zNv k n nm ao ks.len cap) (.cells #[.int .i64 ar,.int .i64 u] 86);rw[<-i,<-A] at F z2 z3 z4 z5;have s0:∀ {I:Nat->Prop},as I w o w1 (dQ w o 0):=λ{I}=>gW o (by rw[<-A];exact z5);have f:∀ j,dQ w o 0 (g+j)=0:=λj=>dY (by omega);have v:=S.stepO (s0 (I:=λ_=>False)) id;have U:=h.step (s0 (I:=λ_=>False)) noF;have X1:=X.step (s0 (I:=λ_=>False)) id;have S0:=s0 (I:=I17);have p:Blk w1 (dQ w o 0) 0 g (.cells #[pt0 rb] 82):=⟨F,f 0⟩;have q:Blk w1 (dQ w o 0) 0 (g+1) (zNv k n nm ao ks.len cap):=⟨z2,f 1⟩;have m:Blk w1 (dQ w o 0) 0 (g+2) (.cells #[.int .i64 ar,.int .i64 u] 86):=⟨z3,f 2⟩;generalize dQ w o 0=c at *;have HG:=Hg A;have E:Hid (∀ w' o',as I17 w1 c w' o'->Bx w' g rb k n nm (.slice ao ks.len cap) ar u):=λw' o' S=>⟨eT (p.step S dZ).1,(dW (q.step S dZ).1).1,(eh (m.step S dZ).1).1,(eh (m.step S dZ).1).2⟩;obtain⟨c0,⟨m0,m1,m2,m3⟩,a0,a1⟩:=E.out _ _ (as.refl I17 w1 c);obtain⟨d0,⟨f0,f1,f2,f3⟩,e0,e1⟩:=E.out _ _ ((as.refl I17 w1 c).drew);have SD:as I17 w1 c w1.drew c:=(as.refl _ w1 c).drew;have dF:as (λ_=>False) w1 c w1.drew c:=(as.refl _ w1 c).drew;have L:=Hg D;have K:=Hg C;clear s0 f F z2 z3 z4 z5 h X S A D C J;have aE:=i7 ks;have au:=Ax Y.1.1;simp only at au;clear d0 f0 f1 f2 f3 e0 e1 p q m;have aQ:=Hg Y;have aP:=Hg H;clear Y H;have a8:(k==1)=false:=by simpa using h1
 have a7:(k==2)=false:=by simpa using h2
 have a6:(k==3)=false:=by simpa using h3
 have a5:(k==5)=false:=by simpa using h5
 have aZ:(k==17)=false:=by simpa using aj
 have aY:(k==18)=false:=by simpa using ai
 have aX:(k==19)=false:=by simpa using ah
 have aV:(k==26)=false:=by simpa using af
 have aW:(k==21)=false:=by simpa using ag
 clear h1 h2 h3 h5 aj ai ah af ag;go_enter JG,Jy;go_upto_region 1 with fail;rw[<-i,<-HG.out];clear i;go_wp2_with fail;go_loopw [13] (λvi wr=>∃(d r:Fs) (s':Em) (o':Nat->Nat),Hid (ks=d.app r)/\vi=.int .i64 (d.len:Nat)/\EmW wr o' rb lv s'/\as I17 w1 c wr o'/\Grw s s' (300*d.size)/\Hid (W=nF (emF ls r) d.len ar u s')) (λvi _=>ks.len-(Ih vi).toNat)
 case atStart=>exact⟨.nil,ks,s,c,rfl,by show _=Hp .i64 ((0:Nat):Int);rfl,U,as.refl _ _ _,⟨by simp,G4 _,rfl,id⟩,HW⟩
 case round =>
  clear HW U c0 m0 m1 m2 m3 a0 a1;obtain⟨d,r,s',o',G,rfl,E2,S2,g2,HW⟩:=hrel;obtain⟨c0,⟨m0,m1,m2,m3⟩,a0,a1⟩:=E.out _ _ S2;have ab:ks.len=d.len+r.len:=by rw[G.out,Fs.len_app]
  have ac:ks.size=d.size+r.size:=by rw[G.out,Fs.size_app]
  have aF:=i7 d;cases r using Fs.on with
  | nil =>
   have aH:¬(d.len:Int)<(ks.len:Int):=by simp only[Fs.len] at ab;omega
   have aO:W=s':=HW.out;subst aO;have HO:=sR nc ⟨k,n,nm,a,ks⟩ ao cap wr o' rb lv ls W aq aQ.out (v.stepO S2 dZ) (by show ks.len<=_;omega) (by show nm.length<=Hu;unfold Hu;omega) (by have:=g2.mes;simp only[Fs.size] at ac;omega) (X1.step S2 dZ) E2;rw[dR] at HO;simp only at HO;have a2:d.size<=ks.size:=by omega
   clear HW G ab ac aF aE E;go_wp2_with (first|(go_at_call 85;refine HO.mono ?_;rintro z w3 ⟨rfl,⟨V,E3,M⟩,g3⟩))
   go_end0
   exact⟨rfl,⟨V,E3,(S0.trans S2).trans M⟩,(g2.trans g3).le (by omega)⟩
  | Js kk kn km ka ap kr =>
   obtain⟨y,hy⟩:∃y:Ex,y=⟨kk,kn,km,ka,ap⟩:=⟨_,rfl⟩;have ay:Fs.cons kk kn km ka ap kr=Fs.ex y kr:=by rw[hy];rfl
   rw[ay] at G HW ab ac;have av:(Fs.ex y kr).len=kr.len+1:=rfl;rw[av] at ab;rw[eG] at ac;have aB:okE nc y:=by
    have h0:=aP.out;rw[G.out] at h0;exact(et (rk h0)).1
   have an:=v.stepO S2 dZ;rw[G.out] at an;obtain⟨b,off,ak,ck,rfl,NN,Sy,NK⟩:=ij (x:=d) an d.len rfl;obtain⟨x0,x1,x2,x3⟩:=NN;have aH:(d.len:Int)<(ks.len:Int):=by omega
   obtain⟨w3,ae⟩:=exq (wr.alloc (.cells (iq y ak ck) 34));obtain⟨gy,am⟩:=exq wr.heap.size;have s3:∀ {I:Nat->Prop},as I wr o' w3 (dQ wr o' 0):=λ{I}=>gW o' (by rw[ae];exact b1 _ _);have B3:Blk w3 (dQ wr o' 0) 0 gy (.cells (iq y ak ck) 34):=by rw[ae,am];exact⟨Hc _ _,dY (G4 _)⟩
   have E3:=E2.step (s3 (I:=λ_=>False)) noF;have M:=S2.trans (s3 (I:=I17));have aL:=Sy.stepO (s3 (I:=λ_=>False)) id;generalize dQ wr o' 0=V at *;have aM:=M.trans ((as.refl I17 w3 V).drew);have az:=λw'=>kQ ar u d.len w' (by omega) (by omega);have HC:∀ w4,Hf w3.drew.heap.size w3.drew w4->_:=λw4 B4=>ih y ak ck ar (u+d.len) w4 V rb lv ls s' (by omega) aB K.out aa ((aL.stepO ((as.refl (λ_=>False) w3 V).drew) id).stepO (as.ofBelow (I:=λ_=>False) V B4) id) (g2.ks.trans L.out) (by have:=g2.mes;omega) (by omega) (by omega) (g2.dp hd) ((X1.step aM dZ).below B4) ((E3.step ((as.refl (λ_=>False) w3 V).drew) noF).below B4);have KY:Hid (∀ w' o2,as I17 w3 V w' o2->(w'.cell? ⟨g,0,G0⟩=G1 (pt0 rb)/\w'.cell? ⟨g+2,0,G0⟩=G1 (.int .i64 ar)/\w'.cell? ⟨g+2,1,G0⟩=G1 (.int .i64 u))/\w'.cell? ⟨gy,0,G0⟩=G1 (.int .i64 y.k)/\w'.cell? ⟨gy,1,G0⟩=G1 (.int .i64 y.n)/\w'.cell? ⟨gy,2,G0⟩=G1 (stv y.nm)/\w'.cell? ⟨gy,3,G0⟩=G1 (.slice ak y.kids.len ck)):=λw' o2 S=>by
    obtain⟨q0,-,q1,q2⟩:=E.out _ _ (M.trans S);exact⟨⟨q0,q1,q2⟩,(dW (B3.step S dZ).1).1⟩
   have aN:Hid (W=nF (emF ls kr) (d.len+1) ar u (emE ls y ar (u+d.len) s')):=HW;have aS:Hid (ks=(d.snoc y).app kr):=by show _=_;rw[G.out,rp]
   have ax:(d.snoc y).len=d.len+1:=Fs.len_snoc d y;have aw:(d.snoc y).size=d.size+(y.kids.size+1):=by unfold Fs.snoc;rw[Fs.size_app];rfl
   have aA:=Hg ax;have aU:=Hg aw;have aT:=Hg am;have aR:=Hg ab;have a9:=Hg ac;clear s3 hy ay av an NK Sy am B3 HW G E2 ax aw ab ac;go_upto_region 5 with fail;rw[<-ae,<-aT.out];clear ae;obtain⟨⟨i0,i1,i2⟩,j0,j1,j2,j3⟩:=KY.out _ _ (as.refl I17 w3 V);obtain⟨⟨k0,k1,k2⟩,l0,l1,l2,l3⟩:=KY.out _ _ ((as.refl I17 w3 V).drew);clear x0 x1 x2 x3 c0 m0 m1 m2 m3 a0 a1;go_region_held3 (λwx=>wx.cell? ⟨g,0,G0⟩=G1 (pt0 rb)/\(wx.cell? ⟨gy,0,G0⟩=G1 (.int .i64 y.k)/\wx.cell? ⟨gy,1,G0⟩=G1 (.int .i64 y.n)/\wx.cell? ⟨gy,2,G0⟩=G1 (stv y.nm)/\wx.cell? ⟨gy,3,G0⟩=G1 (.slice ak y.kids.len ck))/\wx.cell? ⟨g+2,0,G0⟩=G1 (.int .i64 ar)/\wx.cell? ⟨g+2,1,G0⟩=G1 (.int .i64 u)) (go_keep) (first|(go_at_call 84;refine(az _).mono ?_;rintro z w4 ⟨rfl,B4⟩;have S4:=((as.refl I17 w3 V).drew).trans (as.ofBelow (I:=I17) V B4);obtain⟨⟨k0,k1,k2⟩,l0,l1,l2,l3⟩:=KY.out _ _ S4;have HF:=HC w4 B4;rw[dR] at HF)|(go_at_call 40;refine HF.mono ?_;rintro z w5 ⟨rfl,⟨o5,E5,S5⟩,g5⟩;obtain⟨⟨k0,k1,k2⟩,l0,l1,l2,l3⟩:=KY.out _ _ (S4.trans S5)))
   all_goals
    clear HC HF az;go_wp2;go_roundw
    case rel=>(try ((repeat apply Hv);refine⟨?_,rfl⟩));exact⟨d.snoc y,kr,_,o5,aS,by rw[aA.out];go_num,E5,(M.trans S4).trans S5,by rw[aU.out];exact(g2.trans g5).le (by omega),by rw[aA.out];exact aN⟩
    case measure=>have ab:=aR.out;simp[Ih];omega
theorem tw (nc:Nat):∀ N,jE nc N
 | 0=>λe ao cap ar u w o rb lv ls s h=>by omega
 | N+1=>uA nc N (tw nc N)
theorem yq (w:G9)(b off c n:Nat)(hn:n<=100000)(hb:b<w.heap.size)(hc:w.cell? ⟨b,off,G0⟩=G1 (.int .i64 1)) :
  Hn G5 73 #[.slice (G1 ⟨b,off,G0⟩) 1 c,.int .i64 (n:Nat)] w λx w'=>∃g,x=.returned (.slice (G1 ⟨g,0,G0⟩) n n)/\w.heap.size<=g/\w'.heap[g]?=G1 (.cells (Ik n (Hp .i64 1)).toArray 3 (0,0))/\Hf w.heap.size w w':=by
 obtain⟨ii,hii,hzi0,hzi1,hzi2⟩:=eo pA;have mk:∀ w:G9,(Instr.makeSlice 35 (.int .i64 (n:Nat)) (.int .i64 (n:Nat))).run G5 w=.ok (.slice (G1 ⟨w.heap.size,0,G0⟩) n n) (w.alloc (.cells (Jb (Hp .i64 0).cells (n*1)) 3)):=λw=>by
  have:=run_make (P:=G5) w 35 3 ii _ Iu hii hzi0 .i64 .i64 n n (by omega) (Int.le_refl _) (by rw[hzi2];omega) (by omega)
  rw[hzi1] at this;simpa only[IE] using this
 obtain⟨X,hX,hXl⟩:∃X:List He,Jb (Hp .i64 0).cells (n*1)=X.toArray/\X.length=n:=⟨(Jb (Hp .i64 0).cells (n*1)).toList,by simp,by simp[Jb,Value.cells]⟩;rw[hX] at mk;have B0:Hf w.heap.size w (w.alloc (.cells X.toArray 3)):=(Hi _ w).alloc (G4 _) _;have E0:(w.alloc (.cells X.toArray 3)).heap[w.heap.size]?=G1 (.cells X.toArray 3 (0,0)):=Hc w _;have c0:=(B0.cell (p:=⟨b,off,G0⟩) hb).trans hc;have m1:=λw=>Ea n hn w;clear hX hc;go_enter Tryz.func73,Tryz.ntmps73;go_wp2_with fail;refine(m1 _).mono ?_;rintro z w1 ⟨rfl,rfl⟩;go_upto_region 7 with fail;generalize w1.alloc (.cells X.toArray 3)=w0 at *;obtain⟨g,hg⟩:∃g,g=w1.heap.size:=⟨_,rfl⟩;rw[<-hg] at E0 ⊢;have HG:Hid (g=w1.heap.size):=hg;have hgs:(Tryz.prog.info? 3).map (·.size)=G1 1:=by rw[hii];simp[hzi1]
 obtain⟨cs,hcs⟩:∃cs,cs=Ik (min 1 n) (Hp .i64 1):=⟨_,rfl⟩;have hcl:cs.length=min 1 n:=by rw[hcs];simp
 have hcv:∀ j v,cs[j]?=G1 v->j=0/\v=Hp .i64 1:=by
  intro j v hv;rw[hcs,Iw] at hv;split at hv
  ·injection hv with hv
   exact⟨by omega,hv.symm⟩
  ·cases hv
 have hca:∀ j,j<cs.length->cs[j]?=G1 (Hp .i64 1):=by
  intro j hj;rw[hcs,Iw];rw[hcl] at hj;rw[if_pos hj]
 clear hcs hg;obtain⟨w2,hr2,hg2,hb2⟩:=jH (P:=G5) (w:=w0) 35 35 3 3 Iu hgs (G1 ⟨g,0,G0⟩) (G1 ⟨b,off,G0⟩) n n 1 c g 0 X 3 E0 cs (by rw[hcl]) (λ_=>⟨rfl,_,rfl,λj v hv=>by obtain⟨rfl,rfl⟩:=hcv j v hv;exact c0⟩) (by omega) (λv hv=>by obtain⟨j,hj,h2⟩:=List.mem_iff_getElem.1 hv;rw[(hcv j v (by rw[Hd hj,h2])).2];rfl);have hlen2:(Kh X 0 cs).length=n:=by rw[length_splice _ _ _ (by omega)];exact hXl
 have hat2:Hid (∀ j,j<0+cs.length->(Kh X 0 cs)[j]?=G1 (Hp .i64 1)):=rI (λj hj=>absurd hj (Ir _)) hca (by omega);generalize Kh X 0 cs=Y at *;have hgl:Hid (g=w1.heap.size):=HG;have B2:Hf w1.heap.size w1 w2:=B0.trans (by rw[<-HG.out];exact hb2);have hk1:Hid (min 1 n<=n/\(0<n->0<min 1 n)):=⟨by omega,by omega⟩;rw[hcl,Ix] at hat2;have hgi:goInt cs.length=.int .i64 (min 1 n:Nat):=by rw[hcl];rfl
 rw[hgi] at hr2;generalize min 1 n=k1 at *;have h2:=Ha hg2;clear E0 c0 hca hcv B0 hb2 hgi;go_wp2;go_loopw [8] (λv wr=>∃(k:Nat) (Y:List He),k<=n/\v=.int .i64 (k:Nat)/\(0<n->0<k)/\Y.length=n/\Hid (∀ j,j<k->Y[j]?=G1 (Hp .i64 1))/\wr.heap[g]?=G1 (.cells Y.toArray 3 (0,0))/\Hf w1.heap.size w1 wr) (λv _=>n-(Ih v).toNat)
 case atStart=>exact⟨k1,Y,hk1.out.1,rfl,hk1.out.2,hlen2,hat2,hg2,B2⟩
 case round =>
  clear hk1 hlen2 hat2 hg2 B2 hr2 hcl h2;obtain⟨k,Y,hk,rfl,hk0,hyl,hat,E1,B1⟩:=hrel;by_cases hlt:k<n
  ·have hkI:(k:Int)<(n:Int):=by omega
   have bdT:Hf wr.heap.size wr wr.drew:=⟨rfl,rfl,rfl,G4 _,λ_ _=>rfl⟩;have Ed:wr.drew.heap[g]?=G1 (.cells Y.toArray 3 (0,0)):=E1;obtain⟨ds,hds⟩:∃ds,ds=Ik (min k (n-k)) (Hp .i64 1):=⟨_,rfl⟩;have hdl:ds.length=min k (n-k):=by rw[hds];simp
   have hda:∀ j,j<ds.length->ds[j]?=G1 (Hp .i64 1):=by
    intro j hj;rw[hds,Iw];rw[hdl] at hj;rw[if_pos hj]
   have hdv:∀ j v,ds[j]?=G1 v->j<k/\v=Hp .i64 1:=by
    intro j v hv;rw[hds,Iw] at hv;split at hv
    ·injection hv with hv
     exact⟨by omega,hv.symm⟩
    ·cases hv
   clear hds;obtain⟨w3,hr3,hg3,hb3⟩:=jH (P:=G5) (w:=wr.drew) 35 35 3 3 Iu hgs (G1 ⟨g,k,G0⟩) (G1 ⟨g,0,G0⟩) (n-k) (n-k) k n g k Y 3 Ed ds (by rw[hdl]) (λ_=>⟨rfl,_,rfl,λj v hv=>by
    obtain⟨hj,rfl⟩:=hdv j v hv;have ea:(JA ⟨g,0,G0⟩ j)=⟨g,j,G0⟩:=by simp[JA];exact λh=>h.symm
    rw[ea,If _ _ _ _ _ _ Ed];simpa using hat.out j hj⟩) (by omega) (λv hv=>by obtain⟨j,hj,h2⟩:=List.mem_iff_getElem.1 hv;rw[(hdv j v (by rw[Hd hj,h2])).2];rfl)
   have hlen3:(Kh Y k ds).length=n:=by rw[length_splice _ _ _ (by omega)];exact hyl
   have hat3:Hid (∀ j,j<k+ds.length->(Kh Y k ds)[j]?=G1 (Hp .i64 1)):=rI hat.out hda (by omega);generalize Kh Y k ds=Y3 at *;have B3:Hf w1.heap.size w1 w3:=(B1.trans (bdT.mono B1.size)).trans (by rw[<-HG.out];exact hb3);rw[hdl] at hat3;have hgi:goInt ds.length=.int .i64 (min k (n-k):Nat):=by rw[hdl];rfl
   rw[hgi] at hr3;have hpos:0<min k (n-k):=by have:=hk0 (by omega);omega
   have hle:k+min k (n-k)<=n:=by omega
   generalize min k (n-k)=d at *;clear hat hda hdv hdl hgi E1 hyl Ed;go_wp2_with fail;go_region;go_wp2;go_roundw
   case rel=>exact⟨k+d,Y3,hle,by simp,λ_=>by omega,hlen3,hat3,hg3,B3⟩
   case measure=>simp[Ih];omega
  ·have hkI:¬(k:Int)<(n:Int):=by omega
   have HR:Hid (∃g',Jx (.slice (G1 ⟨g,0,G0⟩) n n)=Jx (.slice (G1 ⟨g',0,G0⟩) n n)/\w1.heap.size<=g'/\wr.heap[g']?=G1 (.cells (Ik n (Hp .i64 1)).toArray 3 (0,0))/\Hf w1.heap.size w1 wr):=by
    have hY:Y=Ik n (Hp .i64 1):=by
     apply JK;intro j;rw[Iw];by_cases hj:j<n
     ·rw[if_pos hj];exact hat.out j (by omega)
     ·rw[if_neg hj];exact Ie (by omega)
    exact⟨g,rfl,by rw[HG.out];exact G4 _,by rw[<-hY];exact E1,B1⟩
   clear hat E1 hyl B1;go_wp2;go_ret;exact HR.out
theorem yU {cells:List Int}{n:Int}{ks:Fs}{ar:Nat}{s s':Rg}(h:fT cells n ks ar s=G1 s'):s'.1=s.1:=by
 unfold fT at h;split at h
 ·cases h
 ·split at h
  ·cases h
  ·split at h
   ·injection h with h;subst h;rfl
   ·split at h
    ·injection h with h;subst h;rfl
    ·cases h
theorem CV {pk:Int}{i ar wi:Nat}(h:ar<=wi):(eu pk i ar wi).1<=(eu pk i ar wi).2:=by
 unfold eu;split
 ·simp only;split<;>omega
 ·exact h
theorem wU {cells:List Int}{e:Ex}{ar wi:Nat}{s s':Rg}{k:Int}(hx:rgE cells e ar wi s=G1 (s',k))(ha:ar<=wi)(hn:-9223372036854775808<=e.n/\e.n<=9223372036854775807):okN cells.length e.k e.n e.nm e.kids.len:=by
 have hd:=nM hx;obtain⟨hg,-⟩:=gN hx;unfold gdE at hg;simp only[not_or] at hg;obtain⟨g1,g2,g3,g4⟩:=hg;refine⟨hd,λh5=>?_,λh26=>?_,hn⟩
 ·rw[h5] at g4;simp[nuP] at g4;omega
 ·rw[h26] at g4;simp[nuP] at g4;omega
theorem BJ (cells:List Int):∀ (f:Fs) (pk:Int) (i ar wi:Nat) (s s':Rg) (kd:List Int),ar<=wi->rgF cells f pk i ar wi s=G1 (s',kd)->f.rng->okF cells.length f/\s'.1=s.1+f.size/\(s.1<=4096->s'.1<=4096)
 | ⟨G0⟩,pk,i,ar,wi,s,s',kd,ha,h,hr=>by
  simp only[rgF] at h;injection h with h
  injection h with h1 h2
  subst h1;exact⟨trivial,rfl,id⟩
 | ⟨G1 ⟨k,n,nm,a,ks,r⟩⟩,pk,i,ar,wi,s,s',kd,ha,h,hr=>by
  have h0:rgF cells ⟨G1 ⟨k,n,nm,a,ks,r⟩⟩ pk i ar wi s=_:=iQ cells ⟨k,n,nm,a,ks⟩ r pk i ar wi s;rw[h0] at h;cases hx:rgE cells ⟨k,n,nm,a,ks⟩ (eu pk i ar wi).1 (eu pk i ar wi).2 s with
  | none=>rw[hx] at h;cases h
  | some z =>
   obtain⟨s2,k2⟩:=z;rw[hx] at h;simp only at h;cases hq:rgF cells r pk (i+1) ar wi s2 with
   | none=>rw[hq] at h;cases h
   | some z =>
    obtain⟨s3,rest⟩:=z;rw[hq] at h;injection h with h
    injection h with h1 h2
    subst h1;have hsp:=CV (pk:=pk) (i:=i) ha;have hnd:=wU hx hsp ⟨hr.1,hr.2.1⟩;obtain⟨hg,s1,kd1,hk,hl,hf1,hf2,hk2,h6⟩:=gN hx;simp only at hk hnd h6;obtain⟨a1,a2,a3⟩:=BJ cells ks k 0 _ _ _ _ _ hsp hk hr.2.2.1;obtain⟨b1,b2,b3⟩:=BJ cells r pk (i+1) ar wi _ _ _ ha hq hr.2.2.2;have hs2:s2.1=s1.1:=by
     split at h6
     ·exact yU h6
     ·injection h6 with h6;rw[h6]
    have hsz:(⟨G1 ⟨k,n,nm,a,ks,r⟩⟩:Fs).size=ks.size+r.size+1:=rfl;unfold gdE at hg;simp only[not_or] at hg;refine⟨⟨hnd,a1,b1⟩,?_,λhs=>?_⟩
    ·rw[hsz,b2,hs2,a2];simp only;omega
    ·exact b3 (by rw[hs2];exact a3 (by simp only;omega))
theorem sV {cells:List Int}{e:Ex}(h:fh cells e≠0)(hn:-9223372036854775808<=e.n/\e.n<=9223372036854775807)(hr:e.kids.rng):okE cells.length e/\e.kids.size+1<=4096/\cells.length<=256/\∀ c,c ∈ cells->0<=c/\c<=4:=by
 obtain⟨h1,h2,s,hx,-⟩:=mY h;have hnd:=wU hx (G4 0) hn;obtain⟨hg,s1,kd1,hk,-,-,-,-,-⟩:=gN hx;obtain⟨a1,a2,a3⟩:=BJ cells e.kids e.k 0 0 0 _ _ _ (G4 0) hk hr;have h4:=a3 (by simp);rw[a2] at h4;simp only at h4;exact⟨⟨hnd,a1⟩,by omega,h1,h2⟩
structure lC (w:G9):Prop where
 tab:Tab w
 bar:∀ k:Nat,k<25->w.cell? ⟨0,k,G0⟩=G1 (.int .i64 ([0,0,0,0,0,0,4,5,6,7,8,9,10,0,0,0,0,0,0,0,0,0,20,0,22].getD k 0))
 lt:0<w.heap.size
theorem lC.below {w w':G9}(h:lC w)(b:Hf w.heap.size w w'):lC w':=⟨h.tab.below b,λk hk=>(b.cell (p:=⟨0,k,G0⟩) h.lt).trans (h.bar k hk),Hh h.lt b.size⟩
abbrev o00:Nat->Nat:=λ_=>0
theorem tN (cv:He)(cells:List Int)(w:G9)(hcl:cells.length<=256)(hc:InA w cv cells) :
  Hn G5 39 #[cv] w λe w'=>∃rb o',e=.returned (pt0 rb)/\EmW w' o' rb cv (em0 cells)/\Hf w.heap.size w w'/\∀ k,k<w.heap.size->o' k=0:=by
 obtain⟨ao,cap,rfl,-⟩:=hc;obtain⟨w1,hw1⟩:∃w1,w1=w.alloc (.cells #[.int .i64 1] 3):=⟨_,rfl⟩;obtain⟨g,hg⟩:∃g,g=w.heap.size:=⟨_,rfl⟩;have B1:Hf g w w1:=by rw[hw1,hg];exact b1 _ _
 have C1:w1.cell? ⟨g,0,G0⟩=G1 (.int .i64 1):=eT (by rw[hw1,hg];exact Hc _ _);have L1:g<w1.heap.size:=by rw[hw1,hg];simp
 have HR:=yq w1 g 0 1 cells.length (by omega) L1 C1;have HG:=Hg hg;clear hg;go_enter Tryz.func39,Tryz.ntmps39;go_wp2_with fail;rw[<-hw1,<-HG.out];clear hw1;refine HR.mono ?_;rintro e w2 ⟨gk,rfl,hgk,K2,B2⟩;clear HR;obtain⟨r,hr⟩:∃r,r=w2.heap.size:=⟨_,rfl⟩;obtain⟨w5,hw5⟩:∃w5,w5=((w2.alloc (.map #[] 0)).alloc (.map #[] 0)).alloc (.cells #[.slice G0 0 0,.slice G0 0 0,.slice G0 0 0,.slice (G1 ⟨gk,0,G0⟩) cells.length cells.length,.map (G1 r),.map (G1 (r+1)),.slice ao cells.length cap,.int .i64 0] 90):=⟨_,rfl⟩;obtain⟨z1,z2,z3,z4,z5⟩:=al3 w2 (.map #[] 0) (.map #[] 0) (.cells #[.slice G0 0 0,.slice G0 0 0,.slice G0 0 0,.slice (G1 ⟨gk,0,G0⟩) cells.length cells.length,.map (G1 r),.map (G1 (r+1)),.slice ao cells.length cap,.int .i64 0] 90);rw[<-hw5,<-hr] at z1 z2 z3 z4 z5;have hgr:gk<r:=by rw[hr];exact Ha K2
 have hgw:g<gk:=by omega
 have HF:Hid (∃rb o',Jx (.pointer (G1 ⟨r+2,0,G0⟩))=.returned (pt0 rb)/\EmW w5 o' rb (.slice ao cells.length cap) (em0 cells)/\Hf w.heap.size w w5/\∀ k,k<w.heap.size->o' k=0):=by
  obtain⟨o',ho'⟩:∃o':Nat->Nat,o'=λk=>if k=r+2 then 1 else if k=gk then 5 else if k=r then 6 else if k=r+1 then 7 else 0:=⟨_,rfl⟩;have l1:o' (r+2)=1:=by rw[ho'];simp
  have l5:o' gk=5:=by rw[ho'];show (if gk=r+2 then 1 else if gk=gk then 5 else _)=5;rw[if_neg (by omega),if_pos rfl]
  have l6:o' r=6:=by rw[ho'];show (if r=r+2 then 1 else if r=gk then 5 else if r=r then 6 else _)=6;rw[if_neg (by omega),if_neg (by omega),if_pos rfl]
  have l7:o' (r+1)=7:=by rw[ho'];show (if r+1=r+2 then 1 else if r+1=gk then 5 else if r+1=r then 6 else if r+1=r+1 then 7 else 0)=7;rw[if_neg (by omega),if_neg (by omega),if_neg (by omega),if_pos rfl]
  have B25:Hf r w2 w5:=z5;refine⟨r+2,o',rfl,⟨λx hx=>by simp[em0] at hx,λx hx=>by simp[em0] at hx,λx hx=>by simp[em0] at hx,_,_,_,_,r,r+1,⟨z3,l1⟩,Row.nil _ _ _ _ _,Row.nil _ _ _ _ _,Row.nil _ _ _ _ _,?_,?_,?_⟩,?_,λk hk=>?_⟩
  ·have hK:w5.heap[gk]?=_:=(B25.block gk hgr).trans K2;have e1:(em0 cells).ks.length=cells.length:=by simp[em0]
   have e2:eiV (em0 cells).ks=Ik cells.length (Hp .i64 1):=by simp[eiV,em0]
   rw[e1,e2];refine⟨⟨by simp,.inr ⟨gk,cells.length,_,rfl,JI _,hK,G4 _,by unfold Hu;omega,by simp,by simp⟩⟩,λk hk=>?_⟩;simp[JQ] at hk;rw[<-hk];exact l5
  ·obtain⟨D,q1,q2,q3,q4⟩:=MpC.made w2 o00 6;rw[<-hr] at q1;exact⟨D,kZ q1 (as.ofBelow (I:=λ_=>False) (w:=w2.alloc (.map #[] 0)) (w':=w5) o00 (by rw[hw5];exact((Hi _ _).alloc (G4 _) _).alloc (by simp) _)) id,q2,l6,q4⟩
  ·obtain⟨D,q1,q2,q3,q4⟩:=MpS.made (w2.alloc (.map #[] 0)) o00 7;have e:(w2.alloc (.map #[] 0)).heap.size=r+1:=by rw[hr];simp
   rw[e] at q1;exact⟨D,kZ q1 (as.ofBelow (I:=λ_=>False) (w':=w5) o00 (by rw[hw5];exact b1 _ _)) id,q2,l7,q4⟩
  ·rw[<-HG.out];exact(B1.trans (B2.mono (IM L1))).trans (B25.mono (by omega))
  ·rw[<-HG.out] at hk;rw[ho'];show (if k=r+2 then 1 else if k=gk then 5 else if k=r then 6 else if k=r+1 then 7 else 0)=0;rw[if_neg (by omega),if_neg (by omega),if_neg (by omega),if_neg (by omega)]
 have hmm:=@run_makeMap G5;have HR:=Hg hr;clear z1 z2 z3 z4 z5 K2 B2 B1 C1 hr;rw[HR.out] at hw5 HF;go_wp2;rw[<-hw5];clear hw5;go_ret;exact HF.out
abbrev iR:Array He:=#[.slice G0 0 0,.slice G0 0 0,.slice G0 0 0,.slice G0 0 0]
structure EmC (w:G9)(o:Nat->Nat)(s:Em)(vw vc vn vk:He):Prop where
 ok:∀ x ∈ s.ws,x.ok
 ci:∀ n ∈ s.cs,-9223372036854775808<=n/\n<=9223372036854775807
 ni:∀ x ∈ s.ns,x.length<=Hu
 ws:Row w o 2 54 1 vw s.ws.length (woV s.ws)
 cs:Row w o 3 3 1 vc s.cs.length (eiV s.cs)
 ns:Row w o 4 9 1 vn s.ns.length (esV s.ns)
 ks:Row w o 5 3 1 vk s.ks.length (eiV s.ks)
def qz (w:G9)(e:Ex)(cells:List Int)(z:Ja)(w':G9):Prop :=
 Hf w.heap.size w w'/\((fh cells e=0/\z=.returned (.tuple #[.agg iR,.int .i64 140])) \/
  (fh cells e≠0/\(32768<(emA cells e).ws.length\/1024<(emA cells e).dp)/\z=.returned (.tuple #[.agg iR,.int .i64 190])) \/
  (fh cells e≠0/\(emA cells e).ws.length<=32768/\(emA cells e).dp<=1024/\(emA cells e).mes<=100000000/\∃vw vc vn vk o',z=.returned (.tuple #[.agg #[vw,vc,vn,vk],.int .i64 0])/\(∀ k,k<w.heap.size->o' k=0)/\EmC w' o' (emA cells e) vw vc vn vk))
theorem EN {w w':G9}{o':Nat->Nat}{cv:He}{cells:List Int}(h:lC w)(hc:InA w cv cells)(B:Hf w.heap.size w w')(ho:∀ k,k<w.heap.size->o' k=0):EmX w' o' cv cells:=by
 have h':=h.below B;obtain⟨ao,cap,hv,hx⟩:=hc;refine⟨h'.tab,ho _ h.tab.2.2.2.2.2.2,h'.bar,⟨ho _ h.lt,h'.lt⟩,ao,cap,hv,?_⟩;rcases hx with hx|⟨b,off,h1,h2,h3,h4⟩
 ·exact .inl hx
 ·exact .inr ⟨b,off,h1,ho b h3,Hh h3 B.size,λj x hj=>(B.cell (p:=⟨b,off+j,G0⟩) h3).trans (h4 j x hj)⟩
theorem gp {w:G9}{b:Nat}{x0 x1 x2 x3 x4:He}{t:Il}(h:w.heap[b]?=G1 (.cells #[x0,x1,x2,x3,x4] t)):w.cell? ⟨b,0,G0⟩=G1 x0/\w.cell? ⟨b,1,G0⟩=G1 x1/\w.cell? ⟨b,2,G0⟩=G1 x2/\w.cell? ⟨b,3,G0⟩=G1 x3/\w.cell? ⟨b,4,G0⟩=G1 x4:=by
 refine⟨?_,?_,?_,?_,?_⟩<;>simp[J7,h]
theorem oI {w:G9}{b:Nat}{x0 x1 x2 x3:He}{t:Il}(y0 y1 y2 y3:He)(h:w.heap[b]?=G1 (.cells #[x0,x1,x2,x3] t)):((((w.setCell ⟨b,0,G0⟩ y0).setCell ⟨b,1,G0⟩ y1).setCell ⟨b,2,G0⟩ y2).setCell ⟨b,3,G0⟩ y3).heap[b]?=G1 (.cells #[y0,y1,y2,y3] t) :=
 IJ _ b 3 _ _ _ (IJ _ b 2 _ _ _ (IJ _ b 1 _ _ _ (IJ w b 0 _ _ _ h)))
theorem Ad (e:Ex)(ao:Option Hw)(cap:Nat)(cv:He)(cells:List Int)(w:G9)(hf:fA e)(hn:-9223372036854775808<=e.n/\e.n<=9223372036854775807)(hr:e.kids.rng)(hW:Wd w)(hT:lC w)(hc:InA w cv cells)(hcl:cells.length<=1000000000)(S:SnA w e.kids ao) :
  Hn G5 16 #[plV e ao cap cv] w (qz w e cells):=by
 obtain⟨g,hg⟩:∃g,g=w.heap.size:=⟨_,rfl⟩;obtain⟨w1,hw1⟩:∃w1,w1=(w.alloc (.cells #[.int .i64 e.k,.int .i64 e.n,stv e.nm,.slice ao e.kids.len cap,cv] 37)).alloc (.cells iR 42):=⟨_,rfl⟩;obtain⟨z1,z2,z3,z4⟩:=al2 w (.cells #[.int .i64 e.k,.int .i64 e.n,stv e.nm,.slice ao e.kids.len cap,cv] 37) (.cells iR 42);rw[<-hw1,<-hg] at z1 z2 z3 z4;have B1:Hf w.heap.size w w1:=by rw[<-hg];exact z4
 have HC:=Bf e ao cap cv cells w1 hf (hW.below B1) (hc.below B1) hcl (SnA.below S B1);have hcv:=hc;obtain⟨ac,cc,rfl,-⟩:=hcv;rw[fu] at HC ⊢;have HG:=Hg hg;clear hg;obtain⟨c0,c1,c2,c3,c4⟩:=gp z1;by_cases hk:fh cells e=0
 ·rw[decide_eq_false (by simp[hk])] at HC;have HK:=Hg hk;clear hk;go_enter Tryz.func16,Tryz.ntmps16;go_upto_region 1 with fail;rw[<-hw1,<-HG.out];clear hw1;go_upto_region 2 with (first|(go_at_call 38;refine HC.mono ?_;rintro z w2 ⟨rfl,B2⟩))
  have GZ:=(B2.block (g+1) (by omega)).trans z2;obtain⟨⟨d0,d1,d2,d3⟩,df⟩:=dW GZ;have df0:=df 0;have df1:=df 1;have df2:=df 2;have df3:=df 3;have BZ:Hf g w w2:=z4.trans (B2.mono (by omega));have ZE:=oI (.slice G0 0 0) (.slice G0 0 0) (.slice G0 0 0) (.slice G0 0 0) GZ;have hle:g<=g+1:=by omega
  have BE:=(((BZ.setCell (p:=⟨g+1,0,G0⟩) hle (.slice G0 0 0)).setCell (p:=⟨g+1,1,G0⟩) hle (.slice G0 0 0)).setCell (p:=⟨g+1,2,G0⟩) hle (.slice G0 0 0)).setCell (p:=⟨g+1,3,G0⟩) hle (.slice G0 0 0);obtain⟨⟨m0,m1,m2,m3⟩,-⟩:=dW ZE;have HBE:=Hg BE;clear ZE BE GZ BZ HC z1 z2 z3 z4 B1 B2 c0 c1 c2 c3 c4;go_wp2;exact Hb (v:=.tuple #[.agg iR,.int .i64 140]) (by simp[Hk,Tryz.results16,go_sem,m0,m1,m2,m3]) rfl ⟨by rw[<-HG.out];exact HBE.out,.inl ⟨HK.out,rfl⟩⟩
 ·rw[decide_eq_true hk] at HC;obtain⟨hok,hsz,hnc,hcb⟩:=sV hk hn hr;have HK:=Hg hk;clear hk;go_enter Tryz.func16,Tryz.ntmps16;go_upto_region 1 with fail;rw[<-hw1,<-HG.out];clear hw1;go_upto_region 3 with (first|(go_at_call 38;refine HC.mono ?_;rintro z w2 ⟨rfl,B2⟩))
  have B12:Hf w.heap.size w w2:=B1.trans (B2.mono B1.size);have y1:=(B2.block g (by omega)).trans z1;have y2:=(B2.block (g+1) (by omega)).trans z2;have L2:g+2<=w2.heap.size:=by rw[<-z3];exact B2.size
  have HN:=tN _ cells w2 hnc (hc.below B12);clear c0 c1 c2 c3 c4 HC;obtain⟨c0,c1,c2,c3,c4⟩:=gp y1;go_upto_region 4 with (first|(go_at_call 39;refine HN.mono ?_;rintro z w3 ⟨rb,o3,rfl,E3,B3,ho3⟩))
  have X3:=EN (hT.below B12) (hc.below B12) B3 ho3;have SN3:SnO w3 o3 e.kids ao:=(SnA.below S B12).mono (λk _ hl=>B3.block k hl) B3.size (λk _ hl=>ho3 k hl);have b3p:Blk w3 o3 0 g (.cells #[.int .i64 e.k,.int .i64 e.n,stv e.nm,.slice ao e.kids.len cap,.slice ac cells.length cc] 37):=⟨(B3.block g (by omega)).trans y1,ho3 g (by omega)⟩;have b3r:Blk w3 o3 0 (g+1) (.cells iR 42):=⟨(B3.block (g+1) (by omega)).trans y2,ho3 (g+1) (by omega)⟩;have hm0:(em0 cells).mes=0:=rfl;have hk0:(em0 cells).ks.length=cells.length:=by simp[em0]
  have HP:=tw cells.length (e.kids.size+1) e ao cap 0 0 w3 o3 rb _ cells (em0 cells) (by omega) hok rfl hnc SN3 hk0 (by rw[hm0];omega) (by omega) (by omega) (by show 0<=_;omega) X3 E3;rw[dR] at HP;have BW:Hf g w w3:=(by rw[<-HG.out] at B12;exact B12.trans (B3.mono (by omega)));clear c0 c1 c2 c3 c4 HN;obtain⟨c0,c1,c2,c3,c4⟩:=gp b3p.1;go_upto_region 5 with (first|(go_at_call 40;refine HP.mono ?_;rintro z w4 ⟨rfl,⟨o4,E4,S4⟩,g4⟩))
  have X4:=X3.step S4 dZ;have HL:=fp 0 0 0 w4 o4 rb _ cells (emE cells e 0 0 (em0 cells)) (by omega) (by omega) (by omega) (by have:=g4.mes;rw[hm0] at this;omega) X4 E4;go_upto_region 6 with (first|(go_at_call 41;refine HL.mono ?_;rintro z w5 ⟨rfl,o5,E5,S5⟩))
  have heq:(emE cells e 0 0 (em0 cells)).lay 0 0 0=emA cells e:=rfl;rw[heq] at E5;have hmes:(emA cells e).mes<=100000000:=by
   rw[<-heq,Em.mes_lay]
   have:=g4.mes
   rw[hm0] at this;omega
  have HMES:=Hg hmes;have S35:=S4.trans S5;have b5r:=b3r.step S35 dZ;have ho5:∀ k,k<w.heap.size->o5 k=0:=λk hk2=>by
   have hg:=HG.out;have hb:=BW.size;rw[S35.lab k (by have:=B3.size;omega)];exact ho3 k (by omega)
  have B5:Hf g w w5:=BW.trans ⟨S35.os,S35.tape,S35.output,S35.size,λk hk2=>S35.block k (by have:=B3.size;omega) (by rw[ho3 k (by omega)];exact dZ)⟩;obtain⟨h1,h2,h3,vw,vc,vn,vk,mc,mn,q0,q1,q2,q3,q4,q5,q6⟩:=E5;obtain⟨⟨t0,t1,t2,t3,t4,t5,t6,t7⟩,-⟩:=ik q0.1;obtain⟨⟨d0,d1,d2,d3⟩,df⟩:=dW b5r.1;have df0:=df 0;have df1:=df 1;have df2:=df 2;have df3:=df 3;have hle:g<=g+1:=by omega
  obtain⟨aw,cw,rfl⟩:=q1.form;obtain⟨ac2,cc2,rfl⟩:=q2.form;obtain⟨an,cn,rfl⟩:=q3.form;obtain⟨ak,ck,rfl⟩:=q4.form;by_cases hA:32768<(emA cells e).ws.length
  ·have hAI:(32768:Int)<((emA cells e).ws.length:Int):=by omega
   have ZE:=oI (.slice G0 0 0) (.slice G0 0 0) (.slice G0 0 0) (.slice G0 0 0) b5r.1;have BE:=(((B5.setCell (p:=⟨g+1,0,G0⟩) hle (.slice G0 0 0)).setCell (p:=⟨g+1,1,G0⟩) hle (.slice G0 0 0)).setCell (p:=⟨g+1,2,G0⟩) hle (.slice G0 0 0)).setCell (p:=⟨g+1,3,G0⟩) hle (.slice G0 0 0);obtain⟨⟨m0,m1,m2,m3⟩,-⟩:=dW ZE;have HBE:=Hg BE;have HA:=Hg hA;clear ZE BE B5 b3r b3p b5r q1 q2 q3 q4 q5 q6 X3 X4 S35 SN3 E3 E4 BW HP HL B3 B12 y1 y2 B1 B2 z1 z2 z4 hT hW S hc;go_wp2;exact Hb (v:=.tuple #[.agg iR,.int .i64 190]) (by simp[Hk,Tryz.results16,go_sem,m0,m1,m2,m3]) rfl ⟨by rw[<-HG.out];exact HBE.out,.inr (.inl ⟨HK.out,.inl HA.out,rfl⟩)⟩
  ·have hAI:¬(32768:Int)<((emA cells e).ws.length:Int):=by omega
   by_cases hB:1024<(emA cells e).dp
   ·have hBI:(1024:Int)<((emA cells e).dp:Int):=by omega
    have ZE:=oI (.slice G0 0 0) (.slice G0 0 0) (.slice G0 0 0) (.slice G0 0 0) b5r.1;have BE:=(((B5.setCell (p:=⟨g+1,0,G0⟩) hle (.slice G0 0 0)).setCell (p:=⟨g+1,1,G0⟩) hle (.slice G0 0 0)).setCell (p:=⟨g+1,2,G0⟩) hle (.slice G0 0 0)).setCell (p:=⟨g+1,3,G0⟩) hle (.slice G0 0 0);obtain⟨⟨m0,m1,m2,m3⟩,-⟩:=dW ZE;have HBE:=Hg BE;have HA:=Hg hB;clear ZE BE B5 b3r b3p b5r q1 q2 q3 q4 q5 q6 X3 X4 S35 SN3 E3 E4 BW HP HL B3 B12 y1 y2 B1 B2 z1 z2 z4 hT hW S hc;go_wp2;exact Hb (v:=.tuple #[.agg iR,.int .i64 190]) (by simp[Hk,Tryz.results16,go_sem,m0,m1,m2,m3]) rfl ⟨by rw[<-HG.out];exact HBE.out,.inr (.inl ⟨HK.out,.inr HA.out,rfl⟩)⟩
   ·have hBI:¬(1024:Int)<((emA cells e).dp:Int):=by omega
    have ZE:=oI (.slice aw (emA cells e).ws.length cw) (.slice ac2 (emA cells e).cs.length cc2) (.slice an (emA cells e).ns.length cn) (.slice ak (emA cells e).ks.length ck) b5r.1;have BE:=(((B5.setCell (p:=⟨g+1,0,G0⟩) hle (.slice aw (emA cells e).ws.length cw)).setCell (p:=⟨g+1,1,G0⟩) hle (.slice ac2 (emA cells e).cs.length cc2)).setCell (p:=⟨g+1,2,G0⟩) hle (.slice an (emA cells e).ns.length cn)).setCell (p:=⟨g+1,3,G0⟩) hle (.slice ak (emA cells e).ks.length ck);have SE:as (λk=>k=0) w5 o5 ((((w5.setCell ⟨g+1,0,G0⟩ (.slice aw (emA cells e).ws.length cw)).setCell ⟨g+1,1,G0⟩ (.slice ac2 (emA cells e).cs.length cc2)).setCell ⟨g+1,2,G0⟩ (.slice an (emA cells e).ns.length cn)).setCell ⟨g+1,3,G0⟩ (.slice ak (emA cells e).ks.length ck)) o5:=((((as.refl _ w5 o5).setCell ⟨g+1,0,G0⟩ _ b5r.2).setCell ⟨g+1,1,G0⟩ _ b5r.2).setCell ⟨g+1,2,G0⟩ _ b5r.2).setCell ⟨g+1,3,G0⟩ _ b5r.2;obtain⟨⟨m0,m1,m2,m3⟩,-⟩:=dW ZE;have HBE:=Hg BE;have HA:=Hg (show (emA cells e).ws.length<=32768/\(emA cells e).dp<=1024 by omega);have HCE:=Hg (show EmC _ o5 (emA cells e) _ _ _ _ from ⟨h1,h2,h3,q1.step SE (by decide),q2.step SE (by decide),q3.step SE (by decide),q4.step SE (by decide)⟩);have HO5:=Hg ho5;clear ZE BE SE B5 b3r b3p b5r q1 q2 q3 q4 q5 q6 X3 X4 S35 SN3 E3 E4 BW HP HL B3 B12 y1 y2 B1 B2 z1 z2 z4 hT hW S hc ho5 hA hB;go_wp2;exact Hb (v:=.tuple #[.agg #[.slice aw (emA cells e).ws.length cw,.slice ac2 (emA cells e).cs.length cc2,.slice an (emA cells e).ns.length cn,.slice ak (emA cells e).ks.length ck],.int .i64 0]) (by simp[Hk,Tryz.results16,go_sem,m0,m1,m2,m3]) rfl ⟨by rw[<-HG.out];exact HBE.out,.inr (.inr ⟨HK.out,HA.out.1,HA.out.2,HMES.out,_,_,_,_,o5,rfl,HO5.out,HCE.out⟩)⟩
def awE:List UInt8:=[99,111,117,110,116,32,118,32,105,110,32,102,101,119,58,32,118,32,61,32,64,49]
def Bu:Fs->Bool
 | ⟨G0⟩=>true
 | ⟨G1 ⟨_,n,_,_,ks,r⟩⟩=>decide (-9223372036854775808<=n)&&(decide (n<=9223372036854775807)&&(Bu ks&&Bu r))
theorem rD:∀ {f:Fs},Bu f=true->f.rng
 | ⟨G0⟩,_=>trivial
 | ⟨G1 ⟨k,n,nm,a,ks,r⟩⟩,h=>by
  simp only[Bu,Ia,decide_eq_true_eq] at h;exact⟨h.1,h.2.1,rD h.2.2.1,rD h.2.2.2⟩
def EP (l:List UInt8):Bool:=match ic l with
 | ⟨G1 (.inr (x,_))⟩=>decide ((pu x).2.1=0)&&(decide (fh [] (ofE x [])≠0)&&(Bu (one (ofE x []))&&(decide ((emA [] (ofE x [])).ws.length=11)&&(decide ((emA [] (ofE x [])).dp<=1024)&&(decide ((emA [] (ofE x [])).cs=[0,1])&&decide ((emA [] (ofE x [])).ns=[[102,101,119]]))))))
 | _=>false
theorem aw_e:EP awE=true:=by kernel_rfl
theorem yc {l:List UInt8}(h:EP l=true):∃x t,ic l=.ok x t/\(pu x).2.1=0/\fh [] (ofE x [])≠0/\(one (ofE x [])).rng/\(emA [] (ofE x [])).ws.length=11/\(emA [] (ofE x [])).dp<=1024/\(emA [] (ofE x [])).cs=[0,1]/\(emA [] (ofE x [])).ns=[[102,101,119]]:=by
 unfold EP at h;cases hp:ic l using Rs.on with
 | out=>rw[hp] at h;cases h
 | bad e a=>rw[hp] at h;cases h
 | ok x t =>
  rw[hp] at h;simp only[Rs.ok,Ia,decide_eq_true_eq] at h;exact⟨x,t,rfl,h.1,h.2.1,rD h.2.2.1,h.2.2.2.1,h.2.2.2.2.1,h.2.2.2.2.2.1,h.2.2.2.2.2.2⟩
theorem kK.okE {w w':G9}{e:Ex}{x:Ja}(h:kK w e x w')(ht:(pu e).2.1=0):∃ay cy,x=.returned (.tuple #[plV (ofE e []) ay cy (.slice G0 0 0),.int .i64 0])/\SlN w' (Nw w.heap.size) (ofE e []).kids ay/\Hf w.heap.size w w':=by
 unfold kK at h;rw[if_pos ht] at h;exact h
theorem qz.yes {w w':G9}{e:Ex}{cells:List Int}{z:Ja}(h:qz w e cells z w')(hk:fh cells e≠0)(h1:(emA cells e).ws.length<=32768)(h2:(emA cells e).dp<=1024):Hf w.heap.size w w'/\∃vw vc vn vk o',z=.returned (.tuple #[.agg #[vw,vc,vn,vk],.int .i64 0])/\(∀ k,k<w.heap.size->o' k=0)/\EmC w' o' (emA cells e) vw vc vn vk:=by
 obtain⟨B,h|h|h⟩:=h
 ·exact absurd h.1 hk
 ·rcases h.2.1 with h3|h3<;>omega
 ·exact⟨B,h.2.2.2.2⟩
theorem zh (w:G9)(hW:Wd w)(hT:lC w):Hn G5 13 #[] w λe w'=>e=.returned (.bool true)/\Hf w.heap.size w w':=by
 obtain⟨x,t,hx,ht,hk,hrg,hw11,hdp,hcs,hns⟩:=yc aw_e;have hok:=yu hx;have c1:=Cj ⟨awE.toArray⟩ w (by decide);have e1:(ByteArray.mk awE.toArray).data.toList=awE:=by simp
 rw[e1,hx] at c1;have hfp:fA (ofE x []):=⟨Fx x [] hok.fit.nm,In (Cd x []) hok.fit.len,xO x [] hok.fit.sh⟩;clear e1 hx;go_enter Tryz.func13,Tryz.ntmps13;go_wp2_with fail;refine c1.mono ?_;rintro e w1 ⟨aox,capx,rfl,S1,b1⟩;clear c1;have b2:Hf w1.heap.size w1 (w1.alloc (.cells #[.int .i64 x.k,.int .i64 x.n,stv x.nm,.slice aox x.kids.len capx,.int .i64 x.a] 25)):=(Hi _ w1).alloc (G4 _) _;have X2:(w1.alloc (.cells #[.int .i64 x.k,.int .i64 x.n,stv x.nm,.slice aox x.kids.len capx,.int .i64 x.a] 25)).heap[w1.heap.size]?=G1 (.cells #[.int .i64 x.k,.int .i64 x.n,stv x.nm,.slice aox x.kids.len capx,.int .i64 x.a] 25 (0,0)):=Hc w1 _;have B2:=b1.trans (b2.mono b1.size);have S2:SlT (w1.alloc (.cells #[.int .i64 x.k,.int .i64 x.n,stv x.nm,.slice aox x.kids.len capx,.int .i64 x.a] 25)) x.kids aox:=SlT.below (Sl.all S1) b2;rw[dU];go_upto_region 2 with fail;generalize w1.alloc (.cells #[.int .i64 x.k,.int .i64 x.n,stv x.nm,.slice aox x.kids.len capx,.int .i64 x.a] 25)=w2 at *;generalize w1.heap.size=bx at *;have c3:=EK x aox capx w2 hok.fit (by have:=hok.size;omega) S2;rw[dU] at c3;obtain⟨p0,p1,p2,p3,p4,pf⟩:=dS X2;go_wp2_with fail;refine c3.mono ?_;intro e w3 h3;have h3:=h3.okE ht;clear c3;generalize ofE x []=p at *;obtain⟨ap,cp,rfl,S3,b3⟩:=h3;have B3:=B2.trans (b3.mono B2.size);clear p0 p1 p2 p3 p4 pf b1 b2 b3 B2 S2 X2 S1 hok ht;have b4:Hf w3.heap.size w3 (w3.alloc (.cells #[.int .i64 p.k,.int .i64 p.n,stv p.nm,.slice ap p.kids.len cp,.slice G0 0 0] 37)):=(Hi _ w3).alloc (G4 _) _;have X4:(w3.alloc (.cells #[.int .i64 p.k,.int .i64 p.n,stv p.nm,.slice ap p.kids.len cp,.slice G0 0 0] 37)).heap[w3.heap.size]?=G1 (.cells #[.int .i64 p.k,.int .i64 p.n,stv p.nm,.slice ap p.kids.len cp,.slice G0 0 0] 37 (0,0)):=Hc w3 _;have B4:=B3.trans (b4.mono B3.size);have S4:=SnA.below S3.all b4;rw[fu];go_upto_region 3 with fail;generalize w3.alloc (.cells #[.int .i64 p.k,.int .i64 p.n,stv p.nm,.slice ap p.kids.len cp,.slice G0 0 0] 37)=w4 at *;generalize w3.heap.size=bp at *;have c5:=Ad p ap cp (.slice G0 0 0) [] w4 hfp ⟨hrg.1,hrg.2.1⟩ hrg.2.2.1 (hW.below B4) (hT.below B4) ⟨G0,0,rfl,.inl rfl⟩ (by simp) S4;rw[fu] at c5;obtain⟨p0,p1,p2,p3,p4,pf⟩:=dS X4;go_wp2_with fail;refine c5.mono ?_;intro e w5 h5;obtain⟨B5',vw,vc,vn,vk,o5,rfl,-,C5⟩:=h5.yes hk (by omega) hdp;clear c5 h5;have B5:=B4.trans (B5'.mono B4.size);obtain⟨aw,cw,rfl⟩:=C5.ws.form;obtain⟨ak,ck,rfl⟩:=C5.ks.form;have Rc:=C5.cs;have Rn:=C5.ns;rw[hcs] at Rc;rw[hns] at Rn;rw[hw11];obtain⟨gc,cc,rfl,-,-,-,hlc,hcc,-⟩:=Rc.pos (by decide);obtain⟨gn,cn,rfl,-,-,-,hln,hcn,-⟩:=Rn.pos (by decide);have d1:w5.cell? ⟨gc,1,G0⟩=G1 (.int .i64 1):=hcc 1 (by decide);have d2:w5.cell? ⟨gn,0,G0⟩=G1 (.string ⟨#[102,101,119]⟩):=hcn 0 (by decide);generalize (emA [] p).ks.length=lk at *;obtain⟨w6,hw6⟩:∃w6,w6=w5.alloc (.cells #[.slice aw 11 cw,.slice (G1 ⟨gc,0,G0⟩) 2 cc,.slice (G1 ⟨gn,0,G0⟩) 1 cn,.slice ak lk ck] 42):=⟨_,rfl⟩;have b6:Hf w5.heap.size w5 w6:=by rw[hw6];exact b1 _ _
 have X6:w6.heap[w5.heap.size]?=G1 (.cells #[.slice aw 11 cw,.slice (G1 ⟨gc,0,G0⟩) 2 cc,.slice (G1 ⟨gn,0,G0⟩) 1 cn,.slice ak lk ck] 42):=by rw[hw6];exact Hc w5 _
 have B6:=B5.trans (b6.mono B5.size);have d1':=(b6.cell (p:=⟨gc,1,G0⟩) hlc).trans d1;have d2':=(b6.cell (p:=⟨gn,0,G0⟩) hln).trans d2;obtain⟨⟨m0,m1,m2,m3⟩,-⟩:=dW X6;clear d1 d2 b6 B5 hcc hcn Rc Rn C5 p0 p1 p2 p3 p4 pf X4 X6 B5' B4 S4 hcs hns hw11 hdp hk;go_upto_region 4 with fail;rw[<-hw6];clear hw6;generalize w5.heap.size=bq at *;go_wp2;go_ret;exact⟨rfl,B6⟩
structure Inv (s:Em):Prop where
 nc:s.cs.Nodup
 nn:s.ns.Nodup
 wc:∀ x ∈ s.ws,(x.op=1\/x.op=2)->x.a<s.cs.length
 wn:∀ x ∈ s.ws,x.op=21->x.a<s.ns.length
 uc:∀ i,i<s.cs.length->∃x ∈ s.ws,(x.op=1\/x.op=2)/\x.a=i
 un:∀ i,i<s.ns.length->∃x ∈ s.ws,x.op=21/\x.a=i
structure Pre (s s':Em):Prop where
 at1:∀ i,i<s.ws.length->s'.ws[i]?=s.ws[i]?
 len:s.ws.length<=s'.ws.length
 ks:s'.ks.length=s.ks.length
theorem Pre.refl (s:Em):Pre s s:=⟨λ_ _=>rfl,G4 _,rfl⟩
theorem Pre.trans {a b c:Em}(h:Pre a b)(k:Pre b c):Pre a c:=⟨λi hi=>(k.at1 i (Hh hi h.len)).trans (h.at1 i hi),In h.len k.len,k.ks.trans h.ks⟩
def Gd (f:Em->Em):Prop:=∀ s,Inv s->Inv (f s)/\Pre s (f s)
theorem Gd.id:Gd (λs=>s):=λs h=>⟨h,Pre.refl s⟩
theorem Gd.comp {f g:Em->Em}(hf:Gd f)(hg:Gd g):Gd (λs=>g (f s)):=λs h=>⟨(hg _ (hf s h).1).1,(hf s h).2.trans (hg _ (hf s h).1).2⟩
theorem wt (s:Em)(op a b:Nat):Pre s (s.lay op a b):=⟨λi hi=>by simp only[Em.lay];exact IV hi,by simp[Em.lay],rfl⟩
theorem oO (s:Em)(op a b u:Nat):Pre s (s.push op a b u):=⟨λi hi=>by simp only[Em.push];exact IV hi,by simp[Em.push],rfl⟩
theorem ml {s:Em}(h:Inv s)(x:Wo)(d:Nat)(h1:(x.op=1\/x.op=2)->x.a<s.cs.length)(h2:x.op=21->x.a<s.ns.length):Inv ⟨s.ws++[x],s.cs,s.ns,s.ks,d⟩:=by
 refine⟨h.nc,h.nn,λy hy=>?_,λy hy=>?_,λi hi=>?_,λi hi=>?_⟩
 ·rcases List.mem_append.1 hy with hy|hy
  ·exact h.wc y hy
  ·simp at hy;subst hy;exact h1
 ·rcases List.mem_append.1 hy with hy|hy
  ·exact h.wn y hy
  ·simp at hy;subst hy;exact h2
 ·obtain⟨y,hy,h3⟩:=h.uc i hi;exact⟨y,Jo _ hy,h3⟩
 ·obtain⟨y,hy,h3⟩:=h.un i hi;exact⟨y,Jo _ hy,h3⟩
theorem fx (op a b:Nat)(h1:op≠1)(h2:op≠2)(h3:op≠21):Gd (λs=>s.lay op a b):=λs h =>
 ⟨ml h ⟨op,a,b⟩ s.dp (λh=>by rcases h with h|h<;>contradiction) (λh=>absurd h h3),wt s op a b⟩
theorem qI {s:Em}(h:Inv s)(n:Int)(op b d:Nat)(hop:op=1\/op=2):Inv ⟨(s.kc n).ws++[⟨op,s.cs.idxOf n,b⟩],(s.kc n).cs,(s.kc n).ns,(s.kc n).ks,d⟩:=by
 by_cases hm:n ∈ s.cs
 ·have e:(s.kc n).cs=s.cs:=by simp[Em.kc,hm]
  simp only[e];exact ml h ⟨op,s.cs.idxOf n,b⟩ d (λ_=>List.idxOf_lt_length_of_mem hm) (λh=>by rcases hop with e|e<;>(rw[e] at h;cases h))
 ·have e:(s.kc n).cs=s.cs++[n]:=by simp[Em.kc,hm]
  have ei:s.cs.idxOf n=s.cs.length:=List.idxOf_eq_length hm;simp only[e,ei];refine⟨?_,h.nn,λy hy hyo=>?_,λy hy hyo=>?_,λi hi=>?_,λi hi=>?_⟩
  ·rw[List.nodup_append];exact⟨h.nc,by simp,λx hx y hy=>by simp at hy;subst hy;rintro rfl;exact hm hx⟩
  ·rw[Hx];rcases List.mem_append.1 hy with hy|hy
   ·have:=h.wc y hy hyo;omega
   ·simp at hy;subst hy;simp
  ·rcases List.mem_append.1 hy with hy|hy
   ·exact h.wn y hy hyo
   ·simp at hy;subst hy;rcases hop with e|e<;>(rw[e] at hyo;cases hyo)
  ·rw[Hx] at hi;by_cases hi2:i<s.cs.length
   ·obtain⟨y,hy,h3⟩:=h.uc i hi2;exact⟨y,Jo _ hy,h3⟩
   ·exact⟨_,List.mem_append_right _ (List.mem_singleton.2 rfl),hop,by simp at hi;simp only;omega⟩
  ·obtain⟨y,hy,h3⟩:=h.un i hi;exact⟨y,Jo _ hy,h3⟩
theorem AV {s:Em}(h:Inv s)(n:List UInt8)(d:Nat):Inv ⟨(s.kn n).ws++[⟨21,s.ns.idxOf n,0⟩],(s.kn n).cs,(s.kn n).ns,(s.kn n).ks,d⟩:=by
 by_cases hm:n ∈ s.ns
 ·have e:(s.kn n).ns=s.ns:=by simp[Em.kn,hm]
  simp only[e];exact ml h ⟨21,s.ns.idxOf n,0⟩ d (λh=>by simp at h) (λ_=>List.idxOf_lt_length_of_mem hm)
 ·have e:(s.kn n).ns=s.ns++[n]:=by simp[Em.kn,hm]
  have ei:s.ns.idxOf n=s.ns.length:=List.idxOf_eq_length hm;simp only[e,ei];refine⟨h.nc,?_,λy hy hyo=>?_,λy hy hyo=>?_,λi hi=>?_,λi hi=>?_⟩
  ·rw[List.nodup_append];exact⟨h.nn,by simp,λx hx y hy=>by simp at hy;subst hy;rintro rfl;exact hm hx⟩
  ·rcases List.mem_append.1 hy with hy|hy
   ·exact h.wc y hy hyo
   ·simp at hy;subst hy;simp at hyo
  ·rw[Hx];rcases List.mem_append.1 hy with hy|hy
   ·have:=h.wn y hy hyo;omega
   ·simp at hy;subst hy;simp
  ·obtain⟨y,hy,h3⟩:=h.uc i hi;exact⟨y,Jo _ hy,h3⟩
  ·rw[Hx] at hi;by_cases hi2:i<s.ns.length
   ·obtain⟨y,hy,h3⟩:=h.un i hi2;exact⟨y,Jo _ hy,h3⟩
   ·exact⟨_,List.mem_append_right _ (List.mem_singleton.2 rfl),rfl,by simp at hi;simp only;omega⟩
theorem jb (n:Int)(kd u:Nat):Gd (λs=>s.con n kd u):=λs h=>⟨qI h n 1 kd _ (.inl rfl),Pre.trans (b:=s.kc n) ⟨λ_ _=>rfl,G4 _,rfl⟩ (oO (s.kc n) 1 _ kd u)⟩
theorem FH (n:Int)(u:Nat):Gd (λs=>(s.kc n).push 2 (s.cs.idxOf n) 0 u):=λs h=>⟨qI h n 2 0 _ (.inr rfl),Pre.trans (b:=s.kc n) ⟨λ_ _=>rfl,G4 _,rfl⟩ (oO (s.kc n) 2 _ 0 u)⟩
theorem FU (n:List UInt8):Gd (λs=>(s.kn n).lay 21 (s.ns.idxOf n) 0):=λs h=>⟨AV h n _,Pre.trans (b:=s.kn n) ⟨λ_ _=>rfl,G4 _,rfl⟩ (wt (s.kn n) 21 _ 0)⟩
theorem EY (a u:Nat):Gd (λs=>s.push 3 a 0 u):=λs h=>⟨ml h ⟨3,a,0⟩ _ (λh=>by simp at h) (λh=>by simp at h),oO s 3 a 0 u⟩
theorem nX (s:Em)(i j:Nat):(s.land i).ws[j]?=if i=j then (s.ws[j]?).map (λx=>x.to s.ws.length) else s.ws[j]?:=by
 simp only[Em.land];rw[List.getElem?_modify];split<;>simp
theorem GE (x:Wo)(n:Nat):(x.to n).op=x.op:=by unfold Wo.to;split<;>rfl
theorem me {s:Em}(h:Inv s){i:Nat}{x:Wo}(hx:s.ws[i]?=G1 x)(h1:x.op≠1)(h2:x.op≠2)(h3:x.op≠21):Inv (s.land i):=by
 have hmem:∀ y ∈ (s.land i).ws,(y.op=1\/y.op=2\/y.op=21)->y ∈ s.ws:=λy hy ho=>by
  obtain⟨j,hj⟩:=List.mem_iff_getElem?.1 hy;rw[nX] at hj;split at hj
  ·rename_i e
   subst e;rw[hx] at hj;simp at hj;subst hj;rw[GE] at ho;rcases ho with ho|ho|ho<;>contradiction
  ·exact List.mem_iff_getElem?.2 ⟨j,hj⟩
 have hback:∀ y ∈ s.ws,(y.op=1\/y.op=2\/y.op=21)->y ∈ (s.land i).ws:=λy hy ho=>by
  obtain⟨j,hj⟩:=List.mem_iff_getElem?.1 hy;refine List.mem_iff_getElem?.2 ⟨j,?_⟩;rw[nX];split
  ·rename_i e
   subst e;rw[hx] at hj;simp at hj;subst hj;rcases ho with ho|ho|ho<;>contradiction
  ·exact hj
 refine⟨h.nc,h.nn,λy hy ho=>h.wc y (hmem y hy (by rcases ho with e|e;exact .inl e;exact .inr (.inl e))) ho,λy hy ho=>h.wn y (hmem y hy (.inr (.inr ho))) ho,λk hk=>?_,λk hk=>?_⟩
 ·obtain⟨y,hy,ho,ha⟩:=h.uc k hk;exact⟨y,hback y hy (by rcases ho with e|e;exact .inl e;exact .inr (.inl e)),ho,ha⟩
 ·obtain⟨y,hy,ho,ha⟩:=h.un k hk;exact⟨y,hback y hy (.inr (.inr ho)),ho,ha⟩
theorem so (s:Em)(i:Nat):(s.land i).ws.length=s.ws.length:=by simp[Em.land]
theorem mF {s s':Em}(h:Pre s s'){i:Nat}(hi:s.ws.length<=i):Pre s (s'.land i):=⟨λj hj=>by rw[nX,if_neg (by omega)];exact h.at1 j hj,by rw[so];exact h.len,h.ks⟩
theorem lZ (s:Em)(op a b:Nat):(s.lay op a b).ws[s.ws.length]?=G1 ⟨op,a,b⟩:=by simp[Em.lay]
theorem nK {f g:Em->Em}(op:Nat)(hf:Gd f)(hg:Gd g)(h1:op≠1)(h2:op≠2)(h3:op≠21):Gd (λs=>s.fork op f g):=λs h=>by
 obtain⟨i1,p1⟩:=fx op 0 0 h1 h2 h3 s h;obtain⟨i2,p2⟩:=hf _ i1;obtain⟨i3,p3⟩:=fx 13 0 0 (by decide) (by decide) (by decide) _ i2
 dsimp only at i1 p1 i2 p2 i3 p3
 have hl1:(s.lay op 0 0).ws.length=s.ws.length+1:=by simp[Em.lay]
 have hw1:((f (s.lay op 0 0)).lay 13 0 0).ws[s.ws.length]?=G1 ⟨op,0,0⟩:=((p2.trans p3).at1 s.ws.length (by omega)).trans (lZ s op 0 0);have i4:=me i3 hw1 h1 h2 h3;have p4:=mF ((p1.trans p2).trans p3) (G4 s.ws.length);obtain⟨i5,p5⟩:=hg _ i4;have hl2:=p2.len;have hl3:(((f (s.lay op 0 0)).lay 13 0 0).land s.ws.length).ws.length=(f (s.lay op 0 0)).ws.length+1:=by rw[so];simp[Em.lay]
 have hw2:(((f (s.lay op 0 0)).lay 13 0 0).land s.ws.length).ws[(f (s.lay op 0 0)).ws.length]?=G1 ⟨13,0,0⟩:=by
  rw[nX,if_neg (by omega)];exact lZ _ 13 0 0
 have hw3:=(p5.at1 (f (s.lay op 0 0)).ws.length (by omega)).trans hw2;exact⟨me i5 hw3 (by decide) (by decide) (by decide),mF (p4.trans p5) (by omega)⟩
theorem qQ (h:Nat):∀ (l:List Int) (i:Nat),Gd (iL h l i)
 | [],_=>Gd.id
 | x::r,i=>λs hs=>by
  unfold iL;by_cases e:x=(h:Int)
  ·rw[if_pos e];obtain⟨a,b⟩:=fx 19 i 0 (by decide) (by decide) (by decide) s hs;obtain⟨c,d⟩:=qQ h r (i+1) _ a;exact⟨c,b.trans d⟩
  ·rw[if_neg e];exact qQ h r (i+1) s hs
theorem Bi (lv:List Int){t:Tr}(ht:∀ ar u,Gd (t ar u))(ar u:Nat):Gd (bdy lv t ar u):=(qQ (ar+1) lv 0).comp (ht (ar+1) u)
theorem vP (lv:List Int){t:Tr}(ht:∀ ar u,Gd (t ar u))(op:Nat)(v:Int)(h1:op≠1)(h2:op≠2)(h3:op≠21)(ar u:Nat):Gd (yJ lv t op v ar u):=λs hs =>
 nK 24 ((((Bi lv ht ar u).comp (fx op s.ws.length 0 h1 h2 h3)).comp (fx 25 0 0 (by decide) (by decide) (by decide))).comp (jb v 2 u)) (jb (1-v) 2 u) (by decide) (by decide) (by decide) s hs
theorem rj (lv:List Int){t:Tr}(ht:∀ ar u,Gd (t ar u)){f:Nat->Em->Em}(hf:∀ g,Gd (f g))(ar u:Nat):Gd (pP lv t f ar u):=λs h=>by
 obtain⟨i1,p1⟩:=fx 24 0 0 (by decide) (by decide) (by decide) s h;obtain⟨i2,p2⟩:=(((Bi lv ht ar u).comp (hf s.ws.length)).comp (fx 13 s.ws.length 0 (by decide) (by decide) (by decide))) _ i1
 dsimp only at i1 p1 i2 p2
 have hl1:(s.lay 24 0 0).ws.length=s.ws.length+1:=by simp[Em.lay]
 have hw:=(p2.at1 s.ws.length (by omega)).trans (lZ s 24 0 0);exact⟨me i2 hw (by decide) (by decide) (by decide),mF (p1.trans p2) (G4 _)⟩
theorem EI (lv:List Int)(n:Int){a t:Tr}(ha:∀ ar u,Gd (a ar u))(ht:∀ ar u,Gd (t ar u))(ar u:Nat):Gd (qua lv n a t ar u):=λs hs=>by
 unfold qua;split
 ·exact((ha ar u).comp (vP lv ht 15 0 (by decide) (by decide) (by decide) ar u)) s hs
 ·split
  ·exact((ha ar u).comp (vP lv ht 14 1 (by decide) (by decide) (by decide) ar u)) s hs
  ·split
   ·exact(((ha ar u).comp (jb 0 1 u)).comp (rj lv ht (λg=>((fx 14 g 0 (by decide) (by decide) (by decide)).comp (jb 1 1 (u+1))).comp (fx 6 0 0 (by decide) (by decide) (by decide))) ar (u+1))) s hs
   ·split
    ·exact(((ha ar u).comp (jb 0 1 u)).comp (rj lv ht (λg=>fx 6 0 0 (by decide) (by decide) (by decide)) ar (u+1))) s hs
    ·exact(((((ha ar u).comp (jb 0 1 u)).comp (jb 0 2 (u+1))).comp (rj lv ht (λg=>fx 26 (n-5).toNat 0 (by decide) (by decide) (by decide)) ar (u+2))).comp (fx 27 0 0 (by decide) (by decide) (by decide))) s hs
theorem zI:∀ (T:List Tr) (i ar u:Nat),(∀ t ∈ T,∀ ar u,Gd (t ar u))->Gd (nF T i ar u)
 | [],_,_,_,_=>Gd.id
 | t::r,i,ar,u,h=>(h t (List.mem_cons_self ..) ar (u+i)).comp (zI r (i+1) ar u (λx hx=>h x (List.mem_cons_of_mem _ hx)))
theorem uM (k:Int):jz k≠1/\jz k≠2/\jz k≠21:=by
 unfold jz
 repeat' split
 all_goals decide
theorem Ey (k n:Int)(nm:List UInt8)(kk:List Int):Gd (opr k n nm kk):=λs hs=>by
 unfold opr;split
 ·exact fx 11 0 _ (by decide) (by decide) (by decide) s hs
 ·split
  ·exact((fx 11 0 (kk.getD 0 0).toNat (by decide) (by decide) (by decide)).comp (fx 5 0 0 (by decide) (by decide) (by decide))) s hs
  ·split
   ·exact fx 12 0 0 (by decide) (by decide) (by decide) s hs
   ·split
    ·exact fx 12 0 1 (by decide) (by decide) (by decide) s hs
    ·split
     ·exact fx 16 _ 0 (by decide) (by decide) (by decide) s hs
     ·split
      ·exact FU nm s hs
      ·split
       ·exact fx 23 _ 0 (by decide) (by decide) (by decide) s hs
       ·exact fx _ 0 0 (uM k).1 (uM k).2.1 (uM k).2.2 s hs
theorem ju {T:List Tr}(h:∀ t ∈ T,∀ ar u,Gd (t ar u))(i ar u:Nat):Gd (T.getD i noT ar u):=by
 by_cases hi:i<T.length
 ·rw[Ib,Hd hi];exact h _ (IU hi) ar u
 ·rw[Ib,Ie (by omega)];exact Gd.id
theorem zJ (lv:List Int)(k n:Int)(nm:List UInt8)(kk:List Int){T:List Tr}(h:∀ t ∈ T,∀ ar u,Gd (t ar u))(ar u:Nat):Gd (prt lv k n nm kk T ar u):=λs hs=>by
 unfold prt;split
 ·exact jb n 1 u s hs
 split
 ·exact jb n 2 u s hs
 split
 ·exact FH n u s hs
 split
 ·exact EY _ u s hs
 split
 ·exact((ju h 0 ar u).comp (nK 14 (ju h 1 ar u) (jb 0 2 u) (by decide) (by decide) (by decide))) s hs
 split
 ·exact((ju h 0 ar u).comp (nK 15 (ju h 1 ar u) (jb 1 2 u) (by decide) (by decide) (by decide))) s hs
 split
 ·exact((ju h 0 ar u).comp (nK 14 (ju h 1 ar u) (ju h 2 ar u) (by decide) (by decide) (by decide))) s hs
 split
 ·have hs1:Inv (s.cel n.toNat (kk.getD 0 0)):=⟨hs.nc,hs.nn,hs.wc,hs.wn,hs.uc,hs.un⟩;have p0:Pre s (s.cel n.toNat (kk.getD 0 0)):=⟨λ_ _=>rfl,G4 _,by simp[Em.cel]⟩;obtain⟨i1,p1⟩:=fx 17 n.toNat 0 (by decide) (by decide) (by decide) _ hs1;obtain⟨i2,p2⟩:=((ju h 0 ar u).comp (fx 18 n.toNat 0 (by decide) (by decide) (by decide))) _ i1
  dsimp only at i1 p1 i2 p2
  have hl1:((s.cel n.toNat (kk.getD 0 0)).lay 17 n.toNat 0).ws.length=s.ws.length+1:=by simp[Em.lay,Em.cel]
  have hw:=(p2.at1 s.ws.length (by omega)).trans (lZ (s.cel n.toNat (kk.getD 0 0)) 17 n.toNat 0);exact⟨me i2 hw (show (17:Nat)≠1 by decide) (show (17:Nat)≠2 by decide) (show (17:Nat)≠21 by decide),mF ((p0.trans p1).trans p2) (G4 _)⟩
 split
 ·exact EI lv n (λar u=>ju h 0 ar u) (λar u=>ju h 1 ar u) ar u s hs
 ·exact((zI T 0 ar u h).comp (Ey k n nm kk)) s hs
theorem uv (lv:List Int):∀ (f:Fs),∀ t ∈ emF lv f,∀ ar u,Gd (t ar u)
 | ⟨G0⟩=>λt ht=>by simp[emF] at ht
 | ⟨G1 ⟨k,n,nm,a,ks,r⟩⟩=>λt ht ar u=>by
  simp only[emF,IR] at ht;rcases ht with rfl|ht
  ·exact zJ lv k n nm (kdF ks) (uv lv ks) ar u
  ·exact uv lv r t ht ar u
theorem EW (lv:List Int)(e:Ex)(ar u:Nat):Gd (emE lv e ar u):=zJ lv e.k e.n e.nm (kdF e.kids) (uv lv e.kids) ar u
theorem D5 (lv:List Int)(e:Ex):Inv (emA lv e)/\(emA lv e).ks.length=lv.length:=by
 have h0:Inv (em0 lv):=⟨List.nodup_nil,List.nodup_nil,λx hx=>by simp[em0] at hx,λx hx=>by simp[em0] at hx,λi hi=>by simp[em0] at hi,λi hi=>by simp[em0] at hi⟩;obtain⟨h,p⟩:=((EW lv e 0 0).comp (fx 0 0 0 (by decide) (by decide) (by decide))) _ h0;exact⟨h,p.ks.trans (by simp[em0])⟩
theorem yS (w:G9)(v1 v2:He)(xs ys:List Int)(h1:InA w v1 xs)(h2:InA w v2 ys)(hl:xs.length<=1000000000) :
  Hn G5 42 #[v1,v2] w λx w'=>x=.returned (.bool (decide (xs=ys)))/\Hf w.heap.size w w':=by
 obtain⟨W,hW⟩:∃W,W=decide (xs=ys):=⟨_,rfl⟩;rw[<-hW];have HW:Hid (W=decide (xs=ys)):=hW;clear hW;obtain⟨a1,c1,rfl,h1⟩:=h1;obtain⟨a2,c2,rfl,h2⟩:=h2;go_enter Tryz.func42,Tryz.ntmps42;by_cases hll:xs.length=ys.length
 ·have hI:((xs.length:Int) != (ys.length:Int))=false:=by rw[hll];simp
  have HL:Hid (xs.length=ys.length):=hll;clear hll;go_wp2;go_loopw [5] (λv wr=>∃k:Nat,k<=xs.length/\v=.int .i64 (k:Nat)/\Hid (∀ j,j<k->xs[j]?=ys[j]?)/\Hf w.heap.size w wr) (λv _=>xs.length-(Ih v).toNat)
  case atStart=>exact⟨0,by omega,by go_num,λj hj=>absurd hj (Ir _),Hi _ _⟩
  case round =>
   obtain⟨k,hk,rfl,hno,B1⟩:=hrel;by_cases hlt:k<xs.length
   ·have hy:k<ys.length:=by have:=HL.out;omega
    have hx1:xs[k]?=G1 xs[k]:=Hd hlt;have hy1:ys[k]?=G1 ys[k]:=Hd hy;rcases h1 with rfl|⟨g1,o1,rfl,-,hg1,hc1⟩
    ·simp at hlt
    rcases h2 with rfl|⟨g2,o2,rfl,-,hg2,hc2⟩
    ·simp at hy
    have x1:=(B1.cell (p:=⟨g1,o1+k,G0⟩) hg1).trans (hc1 k _ hx1);have y1:=(B1.cell (p:=⟨g2,o2+k,G0⟩) hg2).trans (hc2 k _ hy1);generalize xs[k]=x at x1 hx1;generalize ys[k]=y at y1 hy1;have hkI:(k:Int)<(xs.length:Int):=by omega
    have hkJ:(k:Int)<(ys.length:Int):=by omega
    have HX:Hid (xs[k]?=G1 x/\ys[k]?=G1 y):=⟨hx1,hy1⟩;clear hx1 hy1 hc1 hc2 hI;by_cases he:x=y
    ·have hbe:(x != y)=false:=by simpa using he
     have hn2:Hid (∀ j,j<k+1->xs[j]?=ys[j]?):=by
      intro j hj;rcases Nat.lt_succ_iff_lt_or_eq.1 hj with h3|rfl
      ·exact hno.out j h3
      ·rw[HX.out.1,HX.out.2,he]
     clear hno HX he HW;go_wp2_with fail
     go_quiet (fail)
     have B2:=B1.trans (show Hf w.heap.size wr (wr.drewN nq) from ⟨rfl,rfl,rfl,G4 _,λ_ _=>rfl⟩);go_wp2;go_roundw
     case rel=>exact⟨k+1,by omega,by go_num,hn2,B2⟩
     case measure=>simp[Ih];omega
    ·have hbe:(x != y)=true:=by simpa using he
     have FIN:Hid (W=false):=by
      show W=_;rw[HW.out];apply decide_eq_false;intro h3;rw[h3,HX.out.2] at HX
      have:=HX.out.1
      injection this with this
      exact he this.symm
     clear hno HX he HW;go_wp2_with fail
     go_quiet (fail)
     have B2:=B1.trans (show Hf w.heap.size wr (wr.drewN nq) from ⟨rfl,rfl,rfl,G4 _,λ_ _=>rfl⟩);go_wp2;go_ret;rw[FIN.out];exact⟨rfl,B2⟩
   ·have hkI:¬(k:Int)<(xs.length:Int):=by omega
    have FIN:Hid (W=true):=by
     show W=_;rw[HW.out];apply decide_eq_true;apply JK;intro j;rcases Kc j k with h3|h3
     ·exact hno.out j h3
     ·rw[Ie (by omega),Ie (by have:=HL.out;omega)]
    clear hno HW h1 h2 hI;go_wp2;go_ret;rw[FIN.out];exact⟨rfl,B1⟩
 ·have hI:((xs.length:Int) != (ys.length:Int))=true:=by simp;omega
  have FIN:Hid (W=false):=by
   show W=_;rw[HW.out];exact decide_eq_false (λh3=>hll (by rw[h3]))
  clear HW hll h1 h2;go_wp2;go_ret;rw[FIN.out];exact⟨rfl,Hi _ _⟩
def hvP (e:Ex)(cells:List Int):Bool:=decide (20000<cells.length)||decide (wgF e.kids (20000-1)<0)
theorem xY (e:Ex)(ao:Option Hw)(cap ac0:Nat)(cv:He)(cells:List Int)(w:G9)(hc:InA w cv cells)(hcl:cells.length<=Hu)(hlen:e.kids.len<=Hu)(hwd:e.kids.wide)(S:SnA w e.kids ao) :
  Hn G5 12 #[plV e ao cap cv] w λx w'=>x=.returned (.bool (hvP e cells))/\Hf w.heap.size w w':=by
 obtain⟨W,hW⟩:∃W,W=hvP e cells:=⟨_,rfl⟩;rw[<-hW];have HW:Hid (W=hvP e cells):=hW;clear hW;obtain⟨ac,cc,hcv,hcx⟩:=hc;subst hcv;clear hcx;have hml:Hid (Hu=9223372036854775807):=rfl;have hcm:cells.length<=9223372036854775807:=by have:=hml.out;omega
 have B0:Hf w.heap.size w (w.alloc (.cells #[.int .i64 e.k,.int .i64 e.n,stv e.nm,.slice ao e.kids.len cap,.slice ac cells.length cc] 37)):=(Hi _ w).alloc (G4 _) _;have E0:(w.alloc (.cells #[.int .i64 e.k,.int .i64 e.n,stv e.nm,.slice ao e.kids.len cap,.slice ac cells.length cc] 37)).heap[w.heap.size]?=G1 (.cells #[.int .i64 e.k,.int .i64 e.n,stv e.nm,.slice ao e.kids.len cap,.slice ac cells.length cc] 37):=Hc w _;have S0:=SnA.below S B0;rw[fu];go_enter Tryz.func12,Tryz.ntmps12;go_upto_region 1 with fail;generalize w.alloc (.cells #[.int .i64 e.k,.int .i64 e.n,stv e.nm,.slice ao e.kids.len cap,.slice ac cells.length cc] 37)=w0 at *;obtain⟨p0,p1,p2,p3,p4,pf⟩:=dS E0;by_cases h2:20000<cells.length
 ·have hI:(20000:Int)<(cells.length:Int):=by omega
  have HZ:Hid (W=true):=by show W=_;rw[HW.out];simp[hvP,h2]
  clear HW h2;go_wp2;go_ret;rw[HZ.out];exact⟨rfl,B0⟩
 ·have hI:¬(20000:Int)<(cells.length:Int):=by omega
  have HZ:Hid (W=decide (wgF e.kids (20000-1)<0)):=by show W=_;rw[HW.out];simp[hvP,h2]
  have c1:=qv (e.kids.size+1) e ao cap 20000 w0 (by omega) hlen hwd (by omega) (by omega) S0;rw[dR] at c1;generalize wgF e.kids (20000-1)=g at *;clear HW h2;go_wp2_with fail;refine c1.mono ?_;rintro z w1 ⟨rfl,b1⟩;have B1:Hf w.heap.size w w1:=B0.trans (b1.mono B0.size);clear c1 p0 p1 p2 p3 p4 pf E0;go_wp2;go_ret;rw[HZ.out];exact⟨rfl,B1⟩
theorem Ch {e:Ex}{cells:List Int}(h:hvP e cells=false):cells.length<=20000/\e.kids.size<=20000:=by
 unfold hvP at h;simp only[Bool.or_eq_false_iff,decide_eq_false_iff_not] at h;have h1:=po e.kids (20000-1) (by omega);omega
abbrev bV (U:List Bool):Array He:=(U.map Value.bool).toArray
def okQ (s:Em):Prop:=s.ws.length<=32768/\s.dp<=1024
structure Qle (s t:Em):Prop where
 ws:s.ws.length<=t.ws.length
 dp:s.dp<=t.dp
theorem Qle.ok {s t:Em}(h:Qle s t)(k:okQ t):okQ s:=⟨In h.ws k.1,In h.dp k.2⟩
theorem Qle.refl (s:Em):Qle s s:=⟨G4 _,G4 _⟩
theorem Qle.trans {a b c:Em}(h:Qle a b)(k:Qle b c):Qle a c:=⟨In h.ws k.ws,In h.dp k.dp⟩
theorem ey (s:Em)(op a b:Nat):Qle s (s.lay op a b):=⟨by simp[Em.lay],G4 _⟩
theorem px (s:Em)(op a b u:Nat):Qle s (s.push op a b u):=⟨by simp[Em.push],by simp only[Em.push];omega⟩
theorem tT (s:Em)(n:Int):Qle s (s.kc n):=⟨G4 _,G4 _⟩
theorem zu (s:Em)(x:List UInt8):Qle s (s.kn x):=⟨G4 _,G4 _⟩
theorem fK (s:Em)(n:Int)(kd u:Nat):Qle s (s.con n kd u):=(tT s n).trans (px _ 1 _ kd u)
theorem iI (s:Em)(i:Nat):Qle s (s.land i):=⟨by simp[Em.land],G4 _⟩
theorem wD (s:Em)(i:Nat)(k:Int):Qle s (s.cel i k):=⟨G4 _,G4 _⟩
def Qgr (f:Em->Em):Prop:=∀ s,Qle s (f s)
theorem Qgr.id:Qgr (λs=>s):=Qle.refl
theorem mx {f g:Em->Em}(op:Nat)(hf:Qgr f)(hg:Qgr g):Qgr (λs=>s.fork op f g):=λs =>
 ((((ey s op 0 0).trans (hf _)).trans (ey _ 13 0 0)).trans (iI _ _)).trans ((hg _).trans (iI _ _))
theorem im (h:Nat):∀ (l:List Int) (i:Nat),Qgr (iL h l i)
 | [],_=>Qgr.id
 | x::r,i=>λs=>by
  unfold iL;by_cases e:x=(h:Int)
  ·rw[if_pos e];exact(ey s 19 i 0).trans (im h r (i+1) _)
  ·rw[if_neg e];exact im h r (i+1) s
def Qtr (t:Tr):Prop:=∀ ar u,Qgr (t ar u)
theorem wK (lv:List Int){t:Tr}(ht:Qtr t)(ar u:Nat):Qgr (bdy lv t ar u):=λs=>(im (ar+1) lv 0 s).trans (ht (ar+1) u _)
theorem sN (lv:List Int){t:Tr}(ht:Qtr t)(op:Nat)(v:Int)(ar u:Nat):Qgr (yJ lv t op v ar u):=λs =>
 mx 24 (f:=λx=>(((bdy lv t ar u x).lay op s.ws.length 0).lay 25 0 0).con v 2 u) (λx=>(((wK lv ht ar u x).trans (ey _ _ _ _)).trans (ey _ _ _ _)).trans (fK _ _ _ _)) (λx=>fK _ _ _ _) s
theorem oQ (lv:List Int){t:Tr}(ht:Qtr t){f:Nat->Em->Em}(hf:∀ g,Qgr (f g))(ar u:Nat):Qgr (pP lv t f ar u):=λs =>
 ((((ey s 24 0 0).trans (wK lv ht ar u _)).trans (hf _ _)).trans (ey _ _ _ _)).trans (iI _ _)
theorem vT (lv:List Int)(n:Int){a t:Tr}(ha:Qtr a)(ht:Qtr t)(ar u:Nat):Qgr (qua lv n a t ar u):=λs=>by
 unfold qua;split
 ·exact(ha ar u s).trans (sN lv ht 15 0 ar u _)
 split
 ·exact(ha ar u s).trans (sN lv ht 14 1 ar u _)
 split
 ·exact((ha ar u s).trans (fK _ _ _ _)).trans (oQ lv ht (f:=λg x=>((x.lay 14 g 0).con 1 1 (u+1)).lay 6 0 0) (λg x=>((ey _ _ _ _).trans (fK _ _ _ _)).trans (ey _ _ _ _)) ar (u+1) _)
 split
 ·exact((ha ar u s).trans (fK _ _ _ _)).trans (oQ lv ht (f:=λ_ x=>x.lay 6 0 0) (λg x=>ey _ _ _ _) ar (u+1) _)
 ·exact((((ha ar u s).trans (fK _ _ _ _)).trans (fK _ _ _ _)).trans (oQ lv ht (f:=λ_ x=>x.lay 26 (n-5).toNat 0) (λg x=>ey _ _ _ _) ar (u+2) _)).trans (ey _ _ _ _)
theorem ww:∀ (T:List Tr) (i ar u:Nat),(∀ t ∈ T,Qtr t)->Qgr (nF T i ar u)
 | [],_,_,_,_=>Qgr.id
 | t::r,i,ar,u,h=>λs=>(h t (List.mem_cons_self ..) ar (u+i) s).trans (ww r (i+1) ar u (λx hx=>h x (List.mem_cons_of_mem _ hx)) _)
theorem CO (k n:Int)(nm:List UInt8)(kk:List Int):Qgr (opr k n nm kk):=λs=>by
 unfold opr
 repeat' split
 all_goals first|exact ey _ _ _ _|exact(ey _ _ _ _).trans (ey _ _ _ _)|exact(zu _ _).trans (ey _ _ _ _)
theorem qS {T:List Tr}(h:∀ t ∈ T,Qtr t)(i:Nat):Qtr (T.getD i noT):=by
 by_cases hi:i<T.length
 ·rw[Ib,Hd hi];exact h _ (IU hi)
 ·rw[Ib,Ie (by omega)];exact λ_ _=>Qgr.id
theorem rR (lv:List Int)(k n:Int)(nm:List UInt8)(kk:List Int){T:List Tr}(h:∀ t ∈ T,Qtr t):Qtr (prt lv k n nm kk T):=λar u s=>by
 have q0:=qS h 0;have q1:=qS h 1;have q2:=qS h 2;unfold prt;split
 ·exact fK _ _ _ _
 split
 ·exact fK _ _ _ _
 split
 ·exact(tT _ _).trans (px _ _ _ _ _)
 split
 ·exact px _ _ _ _ _
 split
 ·exact(q0 ar u s).trans (mx 14 (q1 ar u) (λx=>fK _ _ _ _) _)
 split
 ·exact(q0 ar u s).trans (mx 15 (q1 ar u) (λx=>fK _ _ _ _) _)
 split
 ·exact(q0 ar u s).trans (mx 14 (q1 ar u) (q2 ar u) _)
 split
 ·exact((((wD _ _ _).trans (ey _ _ _ _)).trans (q0 ar u _)).trans (ey _ _ _ _)).trans (iI _ _)
 split
 ·exact vT lv n q0 q1 ar u s
 ·exact(ww T 0 ar u h s).trans (CO k n nm kk _)
theorem nS (lv:List Int):∀ (f:Fs),∀ t ∈ emF lv f,Qtr t
 | ⟨G0⟩=>λt ht=>by simp[emF] at ht
 | ⟨G1 ⟨k,n,nm,a,ks,r⟩⟩=>λt ht=>by
  simp only[emF,IR] at ht;rcases ht with rfl|ht
  ·exact rR lv k n nm (kdF ks) (nS lv ks)
  ·exact nS lv r t ht
structure Dp where
 ws:List Wo
 cs:List Int
 ns:List (List UInt8)
 ks:List Int
 h:Int
 top:Int
 lg:Bool
def Dp.puts (s:Dp)(op a b:Nat):Dp:=if 32768<=s.ws.length then { s with lg:=true } else { s with ws:=s.ws++[⟨op,a,b⟩] }
def Dp.at1 (s:Dp):Nat:=if 32768<=s.ws.length then 0 else s.ws.length
def Dp.grows (s:Dp)(n:Int):Dp:={ s with h:=s.h+n,top:=max s.top (s.h+n),lg:=s.lg||decide (1024<max s.top (s.h+n)) }
def Dp.kI (s:Dp)(n:Int):Dp:={ s with cs:=if n ∈ s.cs then s.cs else s.cs++[n] }
def Dp.kN (s:Dp)(x:List UInt8):Dp:={ s with ns:=if x ∈ s.ns then s.ns else s.ns++[x] }
def Dp.val (s:Dp)(n:Int)(kd:Nat):Dp:=((s.kI n).puts 1 (s.cs.idxOf n) kd).grows 1
def Dp.lands (s:Dp)(i:Nat):Dp:=if s.lg then s else { s with ws:=s.ws.modify i (λx=>x.to s.ws.length) }
def Dp.cel (s:Dp)(i:Nat)(k:Int):Dp:=if s.ks.getD i 0=0 then { s with ks:=s.ks.set i k } else s
abbrev Td:=Nat->Dp->Dp
abbrev noD:Td:=λ_ s=>s
def fS:List Td->Nat->Dp->Dp
 | [],_,s=>s
 | t::r,ar,s=>fS r ar (t ar s)
def yF (k:Int)(kk:List Int)(s:Dp):Dp :=
 if k=13 then s.puts 11 0 (kk.getD 0 0).toNat else if k=14 then (s.puts 11 0 (kk.getD 0 0).toNat).puts 5 0 0 else if k=15 then s.puts 12 0 0 else s.puts 12 0 1
def Bs (k:Int)(t0 t1 t2:Td):Td:=λar s =>
 let a:=t0 ar s
 let c:=t1 ar ((a.puts (if k=18 then 15 else 14) 0 0).grows (-1))
 let e:=((c.puts 13 0 0).grows (-1)).lands a.at1
 (if k=17 then e.val 0 2 else if k=18 then e.val 1 2 else t2 ar e).lands c.at1
def um (n:Nat)(kd:Int)(t0:Td):Td:=λar s =>
 ((t0 ar ((s.cel n kd).puts 17 n 0)).puts 18 n 0).lands (s.cel n kd).at1
def yi (k:Int)(nm:List UInt8)(T:List Td):Td:=λar s =>
 let a:=fS T ar s
 (if k=22 then a.puts 20 0 0 else if k=23 then (a.kN nm).puts 21 (a.ns.idxOf nm) 0 else if k=24 then a.puts 22 0 0 else a.puts 23 T.length 0).grows (-(T.length:Int))
def jF (h:Nat):List Int->Nat->Dp->Dp
 | [],_,s=>s
 | l::r,i,s=>if s.lg then s else jF h r (i+1) (if l=(h:Int) then s.puts 19 i 0 else s)
def qK (n:Int)(loop next:Nat)(e:Dp):Dp :=
 let c:=(((e.puts (if n=2 then 14 else 15) loop 0).grows (-1)).puts 25 0 0).val (if n=2 then 1 else 0) 2
 ((((c.puts 13 0 0).grows (-1)).lands next).val (if n=2 then 0 else 1) 2).lands c.at1
def iN (n:Int)(a:Dp):Dp :=
 let b:=if 3<=n then a.val 0 1 else a
 if 5<=n then b.val 0 2 else b
def pD (n:Int)(loop:Nat)(e:Dp):Dp :=
 if n=3 then ((((e.puts 14 loop 0).grows (-1)).val 1 1).puts 6 0 0).grows (-1) else if n=4 then (e.puts 6 0 0).grows (-1) else (e.puts 26 (n-5).toNat 0).grows (-1)
def pE (n:Int)(loop next:Nat)(e:Dp):Dp :=
 let g:=((pD n loop e).puts 13 loop 0).lands next
 if 5<=n then (g.puts 27 0 0).grows (-1) else g
def lQ (lv:List Int)(n:Int)(t0 t1:Td):Td:=λar s =>
 let b:=iN n (t0 ar s)
 if b.lg then b else
 let e:=t1 (ar+1) (jF (ar+1) lv 0 (b.puts 24 0 0))
 if n=1\/n=2 then qK n b.ws.length b.at1 e else pE n b.ws.length b.at1 e
def oT (lv:List Int)(k n:Int)(nm:List UInt8)(kk:List Int)(T:List Td):Td:=λar s =>
 if 22<=k/\k<=25 then yi k nm T ar s else if s.lg then s
 else if k=1 then s.val n 1 else if k=2 then s.val n 2 else if k=3 then ((s.kI n).puts 2 (s.cs.idxOf n) 0).grows 1 else if k=5 then (s.puts 3 n.toNat 0).grows 1
 else if 6<=k/\k<=12 then ((fS T ar s).puts (jz k) 0 0).grows (if k=6\/k=7 then 0 else -1)
 else if 13<=k/\k<=16 then (yF k kk (fS T ar s)).grows (-1)
 else if k=20 then ((fS T ar s).puts 16 n.toNat 0).grows (1-(T.length:Int))
 else if k=26 then um n.toNat (kk.getD 0 0) (T.getD 0 noD) ar s
 else if k=21 then lQ lv n (T.getD 0 noD) (T.getD 1 noD) ar s
 else Bs k (T.getD 0 noD) (T.getD 1 noD) (T.getD 2 noD) ar s
def deF (lv:List Int):Fs->List Td
 | ⟨G0⟩=>[]
 | ⟨G1 ⟨k,n,nm,_,ks,r⟩⟩=>oT lv k n nm (kdF ks) (deF lv ks)::deF lv r
def deE (lv:List Int)(e:Ex):Td:=oT lv e.k e.n e.nm (kdF e.kids) (deF lv e.kids)
theorem rH (lv:List Int):∀ f:Fs,(deF lv f).length=f.len
 | ⟨G0⟩=>rfl
 | ⟨G1 ⟨k,n,nm,a,ks,r⟩⟩=>by simp only[deF,Fs.len,Hy,rH lv r]
structure Dp.sz (m:Nat)(s:Dp):Prop where
 c:s.cs.length<=m
 n:s.ns.length<=m
 h1:-(m:Int)<=s.h
 h2:s.h<=(m:Int)
 t1:-(m:Int)<=s.top
 t2:s.top<=(m:Int)
structure Dle (c:Nat)(s t:Dp):Prop where
 sz:∀ m,s.sz m->t.sz (m+c)
 w1:s.ws.length<=32768->t.ws.length<=32768
 w2:s.ws.length<=t.ws.length
 ks:t.ks.length=s.ks.length
 lg:s.lg=true->t.lg=true
theorem Dp.sz.mono {m m':Nat}{s:Dp}(h:s.sz m)(k:m<=m'):s.sz m':=by
 obtain⟨a,b,c,d,e,f⟩:=h;constructor<;>omega
theorem Dle.refl (s:Dp):Dle 0 s s:=⟨λm h=>h,id,G4 _,rfl,id⟩
theorem Dle.trans {a b:Nat}{x y z:Dp}(h:Dle a x y)(k:Dle b y z):Dle (a+b) x z:=⟨λm q=>(k.sz _ (h.sz m q)).mono (by omega),λq=>k.w1 (h.w1 q),In h.w2 k.w2,k.ks.trans h.ks,λq=>k.lg (h.lg q)⟩
theorem Dle.le {a b:Nat}{x y:Dp}(h:Dle a x y)(k:a<=b):Dle b x y:=⟨λm q=>(h.sz m q).mono (by omega),h.w1,h.w2,h.ks,h.lg⟩
theorem dV (s:Dp)(op a b:Nat):Dle 0 s (s.puts op a b):=by
 unfold Dp.puts;split
 ·exact⟨λm h=>⟨h.c,h.n,h.h1,h.h2,h.t1,h.t2⟩,id,G4 _,rfl,λ_=>rfl⟩
 ·exact⟨λm h=>⟨h.c,h.n,h.h1,h.h2,h.t1,h.t2⟩,λ_=>by simp;omega,by simp,rfl,id⟩
theorem eA (s:Dp)(n:Int)(c:Nat)(h1:-(c:Int)<=n)(h2:n<=(c:Int)):Dle c s (s.grows n):=by
 refine⟨λm h=>?_,id,G4 _,rfl,λh=>by simp[Dp.grows,h]⟩;obtain⟨a,b,d,e,f,g⟩:=h;constructor<;>simp only[Dp.grows]<;>omega
theorem ow (s:Dp)(n:Int):Dle 1 s (s.kI n):=by
 refine⟨λm h=>?_,id,G4 _,rfl,id⟩;obtain⟨a,b,d,e,f,g⟩:=h;constructor<;>simp only[Dp.kI]
 ·split<;>(try simp)<;>omega
 all_goals omega
theorem vu (s:Dp)(n:List UInt8):Dle 1 s (s.kN n):=by
 refine⟨λm h=>?_,id,G4 _,rfl,id⟩;obtain⟨a,b,d,e,f,g⟩:=h;constructor<;>simp only[Dp.kN]
 ·omega
 ·split<;>(try simp)<;>omega
 all_goals omega
theorem fi (s:Dp)(n:Int)(kd:Nat):Dle 2 s (s.val n kd):=(((ow s n).trans (dV _ 1 _ kd)).trans (eA _ 1 1 (by omega) (by omega))).le (by omega)
theorem eJ (s:Dp)(i:Nat):Dle 0 s (s.lands i):=by
 unfold Dp.lands;split
 ·exact Dle.refl s
 ·exact⟨λm h=>⟨h.c,h.n,h.h1,h.h2,h.t1,h.t2⟩,λh=>by simp;omega,by simp,rfl,id⟩
theorem rL (s:Dp)(i:Nat)(k:Int):Dle 0 s (s.cel i k):=by
 unfold Dp.cel;split
 ·exact⟨λm h=>⟨h.c,h.n,h.h1,h.h2,h.t1,h.t2⟩,id,G4 _,by simp,id⟩
 ·exact Dle.refl s
theorem jq (h:Nat):∀ (l:List Int) (i:Nat) (s:Dp),Dle 0 s (jF h l i s)
 | [],_,s=>Dle.refl s
 | x::r,i,s=>by
  unfold jF;split
  ·exact Dle.refl s
  ·split
   ·exact(dV s 19 i 0).trans (jq h r (i+1) _)
   ·exact jq h r (i+1) s
def Tle (c:Nat)(t:Td):Prop:=∀ ar s,Dle c s (t ar s)
theorem DB (n:Int)(loop next:Nat)(e:Dp):Dle 6 e (qK n loop next e) :=
 ((((((((dV e _ loop 0).trans (eA _ (-1) 1 (by omega) (by omega))).trans (dV _ 25 0 0)).trans (fi _ _ 2)).trans (dV _ 13 0 0)).trans (eA _ (-1) 1 (by omega) (by omega))).trans (eJ _ _)).trans (fi _ _ 2)).trans (eJ _ _)
theorem lf (n:Int)(a:Dp):Dle 4 a (iN n a):=by
 unfold iN
 dsimp only
 split<;>split
 ·exact(fi _ _ _).trans (fi _ _ _)
 ·exact((fi _ _ _)).le (by omega)
 ·exact((fi _ _ _)).le (by omega)
 ·exact(Dle.refl _).le (by omega)
theorem nU (n:Int)(loop:Nat)(e:Dp):Dle 4 e (pD n loop e):=by
 unfold pD;split
 ·exact((((dV e 14 loop 0).trans (eA _ (-1) 1 (by omega) (by omega))).trans (fi _ 1 1)).trans (dV _ 6 0 0)).trans (eA _ (-1) 1 (by omega) (by omega))
 ·split
  ·exact((dV e _ _ 0).trans (eA _ (-1) 1 (by omega) (by omega))).le (by omega)
  ·exact((dV e _ _ 0).trans (eA _ (-1) 1 (by omega) (by omega))).le (by omega)
theorem DG (n:Int)(loop next:Nat)(e:Dp):Dle 5 e (pE n loop next e):=by
 unfold pE
 dsimp only
 have h:=((nU n loop e).trans (dV _ 13 loop 0)).trans (eJ _ next);split
 ·exact((h.trans (dV _ 27 0 0)).trans (eA _ (-1) 1 (by omega) (by omega))).le (by omega)
 ·exact h.le (by omega)
theorem Dy (lv:List Int)(n:Int){t0 t1:Td}{a b:Nat}(h0:Tle a t0)(h1:Tle b t1):Tle (a+b+10) (lQ lv n t0 t1):=λar s=>by
 unfold lQ
 dsimp only
 have hb:=(h0 ar s).trans (lf n _);split
 ·exact hb.le (by omega)
 ·have he:=((hb.trans (dV _ 24 0 0)).trans (jq (ar+1) lv 0 _)).trans (h1 (ar+1) _);split
  ·exact(he.trans (DB n _ _ _)).le (by omega)
  ·exact(he.trans (DG n _ _ _)).le (by omega)
theorem Cl (k:Int){t0 t1 t2:Td}{a b c:Nat}(h0:Tle a t0)(h1:Tle b t1)(h2:Tle c t2):Tle (a+b+c+4) (Bs k t0 t1 t2):=λar s=>by
 unfold Bs
 dsimp only
 generalize (if k=18 then 15 else 14)=op;have he:=((((((h0 ar s).trans (dV _ op 0 0)).trans (eA _ (-1) 1 (by omega) (by omega))).trans (h1 ar _)).trans (dV _ 13 0 0)).trans (eA _ (-1) 1 (by omega) (by omega))).trans (eJ _ (t0 ar s).at1);split
 ·exact((he.trans (fi _ _ _)).trans (eJ _ _)).le (by omega)
 ·split
  ·exact((he.trans (fi _ _ _)).trans (eJ _ _)).le (by omega)
  ·exact((he.trans (h2 ar _)).trans (eJ _ _)).le (by omega)
theorem AC (n:Nat)(kd:Int){t0:Td}{a:Nat}(h0:Tle a t0):Tle a (um n kd t0):=λar s=>by
 unfold um;exact((((rL s n kd).trans (dV _ 17 n 0)).trans (h0 ar _)).trans ((dV _ 18 n 0).trans (eJ _ _))).le (by omega)
def Tls:List Td->Fs->Prop
 | [],⟨G0⟩=>True
 | t::T,⟨G1 ⟨_,_,_,_,ks,r⟩⟩=>Tle (17*ks.size+16) t/\Tls T r
 | _,_=>False
theorem oi:∀ (T:List Td) (f:Fs),Tls T f->T.length=f.len/\∃c,c+f.len=17*f.size/\Tle c (λar s=>fS T ar s)
 | [],⟨G0⟩,_=>⟨rfl,0,rfl,λar s=>Dle.refl s⟩
 | t::T,⟨G1 ⟨k,n,nm,a,ks,r⟩⟩,h=>by
  obtain⟨hl,c,hc,hk⟩:=oi T r h.2;refine⟨by simp only[Hy,Fs.len,hl],17*ks.size+16+c,by simp only[Fs.len,Fs.size];omega,λar s=>?_⟩;exact(h.1 ar s).trans (hk ar _)
 | [],⟨G1 ⟨k,n,nm,a,ks,r⟩⟩,h=>by simp[Tls] at h
 | t::T,⟨G0⟩,h=>by simp[Tls] at h
theorem Db:∀ (T:List Td) (f:Fs),Tls T f->∃a b c,Tle a (T.getD 0 noD)/\Tle b (T.getD 1 noD)/\Tle c (T.getD 2 noD)/\a+b+c+min f.len 3<=17*f.size
 | [],⟨G0⟩,_=>⟨0,0,0,λ_ s=>Dle.refl s,λ_ s=>Dle.refl s,λ_ s=>Dle.refl s,by simp[Fs.len]⟩
 | [t],⟨G1 ⟨k,n,nm,a,ks,⟨G0⟩⟩⟩,h=>⟨_,0,0,h.1,λ_ s=>Dle.refl s,λ_ s=>Dle.refl s,by simp only[Fs.len,Fs.size];omega⟩
 | [t,u],⟨G1 ⟨k,n,nm,a,ks,⟨G1 ⟨k',n',nm',a',ks',⟨G0⟩⟩⟩⟩⟩,h=>⟨_,_,0,h.1,h.2.1,λ_ s=>Dle.refl s,by simp only[Fs.len,Fs.size];omega⟩
 | t::u::v::T,⟨G1 ⟨k,n,nm,a,ks,⟨G1 ⟨k',n',nm',a',ks',⟨G1 ⟨k2,n2,nm2,a2,ks2,r⟩⟩⟩⟩⟩⟩,h=>⟨_,_,_,h.1,h.2.1,h.2.2.1,by simp only[Fs.len,Fs.size];omega⟩
 | [],⟨G1 ⟨k,n,nm,a,ks,r⟩⟩,h=>by simp[Tls] at h
 | t::T,⟨G0⟩,h=>by simp[Tls] at h
 | [t],⟨G1 ⟨k,n,nm,a,ks,⟨G1 ⟨k',n',nm',a',ks',r⟩⟩⟩⟩,h=>by simp[Tls] at h
 | t::u::T,⟨G1 ⟨k,n,nm,a,ks,⟨G0⟩⟩⟩,h=>by simp[Tls] at h
 | [t,u],⟨G1 ⟨k,n,nm,a,ks,⟨G1 ⟨k',n',nm',a',ks',⟨G1 ⟨k2,n2,nm2,a2,ks2,r⟩⟩⟩⟩⟩⟩,h=>by simp[Tls] at h
 | t::u::v::T,⟨G1 ⟨k,n,nm,a,ks,⟨G1 ⟨k',n',nm',a',ks',⟨G0⟩⟩⟩⟩⟩,h=>by simp[Tls] at h
theorem vC (k:Int)(kk:List Int)(s:Dp):Dle 0 s (yF k kk s):=by
 unfold yF;split
 ·exact dV _ _ _ _
 split
 ·exact(dV _ _ _ _).trans (dV _ _ _ _)
 split
 ·exact dV _ _ _ _
 ·exact dV _ _ _ _
theorem rA (lv:List Int)(k n:Int)(nm:List UInt8)(kk:List Int)(T:List Td)(f:Fs)(h:Tls T f):Tle (17*f.size+16) (oT lv k n nm kk T):=λar s=>by
 obtain⟨hl,c,hc,hk⟩:=oi T f h;obtain⟨a,b,d,g0,g1,g2,hg⟩:=Db T f h;have hkd:=hk ar s
 dsimp only at hkd
 unfold oT;split
 ·unfold yi
  dsimp only
  split
  ·exact((hkd.trans (dV _ _ _ _)).trans (eA _ _ T.length (by omega) (by omega))).le (by omega)
  split
  ·exact(((hkd.trans (vu _ nm)).trans (dV _ _ _ _)).trans (eA _ _ T.length (by omega) (by omega))).le (by omega)
  split
  ·exact((hkd.trans (dV _ _ _ _)).trans (eA _ _ T.length (by omega) (by omega))).le (by omega)
  ·exact((hkd.trans (dV _ _ _ _)).trans (eA _ _ T.length (by omega) (by omega))).le (by omega)
 split
 ·exact(Dle.refl s).le (by omega)
 split
 ·exact(fi _ _ _).le (by omega)
 split
 ·exact(fi _ _ _).le (by omega)
 split
 ·exact(((ow s n).trans (dV _ _ _ _)).trans (eA _ 1 1 (by omega) (by omega))).le (by omega)
 split
 ·exact((dV s _ _ _).trans (eA _ 1 1 (by omega) (by omega))).le (by omega)
 split
 ·refine((hkd.trans (dV _ _ _ _)).trans (eA _ _ 1 ?_ ?_)).le (by omega)<;>split<;>omega
 split
 ·exact((hkd.trans (vC k kk _)).trans (eA _ (-1) 1 (by omega) (by omega))).le (by omega)
 split
 ·exact((hkd.trans (dV _ _ _ _)).trans (eA _ _ (T.length+1) (by omega) (by omega))).le (by omega)
 split
 ·exact(AC n.toNat _ g0 ar s).le (by omega)
 split
 ·exact(Dy lv n g0 g1 ar s).le (by omega)
 ·exact(Cl k g0 g1 g2 ar s).le (by omega)
theorem mC (lv:List Int):∀ (f:Fs),Tls (deF lv f) f
 | ⟨G0⟩=>trivial
 | ⟨G1 ⟨k,n,nm,a,ks,r⟩⟩=>⟨rA lv k n nm (kdF ks) (deF lv ks) ks (mC lv ks),mC lv r⟩
theorem fj (lv:List Int)(e:Ex):Tle (17*e.kids.size+16) (deE lv e):=rA lv e.k e.n e.nm (kdF e.kids) (deF lv e.kids) e.kids (mC lv e.kids)
def j7 (x:Wo):List He:=[.int .i64 (x.op:Nat),.int .i64 (x.a:Nat),.int .i64 (x.b:Nat)]
def lI:List Wo->List He
 | []=>[]
 | x::r=>j7 x++lI r
theorem tx:∀ l m:List Wo,lI (l++m)=lI l++lI m
 | [],m=>rfl
 | x::l,m=>by rw[Jh,lI,tx l m,lI,JL]
theorem rQ:∀ (l:List Wo) (i j:Nat) (x:Wo),l[i]?=G1 x->j<3->(lI l)[i*3+j]?=(j7 x)[j]?
 | [],i,j,x,h,_=>by simp at h
 | y::l,0,j,x,h,hj=>by
  simp at h;subst h;rw[lI,IV (by simp[j7];omega)]
  congr 1
  omega
 | y::l,i+1,j,x,h,hj=>by
  have h':l[i]?=G1 x:=by simpa using h
  rw[lI,IF (by simp[j7];omega),<-rQ l i j x h' hj]
  congr 1
  simp[j7];omega
structure DW (w:G9)(o:Nat->Nat)(rb:Nat)(p0 p1 p2 p3 p4:He)(s:Dp):Prop where
 wl:s.ws.length<=32768
 mem:∃vc vn vk vw,Blk w o 1 rb (.cells #[p0,p1,p2,p3,p4,vc,vn,vk,vw,.int .i64 s.h,.int .i64 s.top,.bool s.lg] 74) /\
  Row w o 2 80 3 vw s.ws.length (lI s.ws)/\Row w o 3 3 1 vc s.cs.length (eiV s.cs)/\Row w o 4 9 1 vn s.ns.length (esV s.ns)/\Row w o 5 3 1 vk s.ks.length (eiV s.ks)
theorem DW.step {I:Nat->Prop}{w w':G9}{o o':Nat->Nat}{rb:Nat}{p0 p1 p2 p3 p4:He}{s:Dp}(h:DW w o rb p0 p1 p2 p3 p4 s)(x:as I w o w' o')(hi:∀ k,I17 k->¬I k):DW w' o' rb p0 p1 p2 p3 p4 s:=by
 obtain⟨a,vc,vn,vk,vw,q0,q1,q2,q3,q4⟩:=h;exact⟨a,vc,vn,vk,vw,q0.step x (hi 1 (by decide)),q1.step x (hi 2 (by decide)),q2.step x (hi 3 (by decide)),q3.step x (hi 4 (by decide)),q4.step x (hi 5 (by decide))⟩
theorem fq {w:G9}{b:Nat}{x0 x1 x2 x3 x4 x5 x6 x7 x8 x9 xa xb:He}{t:Il}(h:w.heap[b]?=G1 (.cells #[x0,x1,x2,x3,x4,x5,x6,x7,x8,x9,xa,xb] t (0,0))):(w.cell? ⟨b,4,G0⟩=G1 x4/\w.cell? ⟨b,5,G0⟩=G1 x5/\w.cell? ⟨b,6,G0⟩=G1 x6/\w.cell? ⟨b,7,G0⟩=G1 x7/\w.cell? ⟨b,8,G0⟩=G1 x8/\w.cell? ⟨b,9,G0⟩=G1 x9/\w.cell? ⟨b,10,G0⟩=G1 xa/\w.cell? ⟨b,11,G0⟩=G1 xb)/\∀ j,w.frozen? ⟨b,j,G0⟩=false:=by
 refine⟨⟨?_,?_,?_,?_,?_,?_,?_,?_⟩,λj=>IK w b j _ t h⟩<;>(rw[If w b _ _ t (0,0) h];rfl)
def fI (w:G9)(o:Nat->Nat)(rb:Nat)(p0 p1 p2 p3 p4:He)(s:Dp)(v:He)(e:Ja)(w':G9):Prop:=e=.returned v/\∃o',DW w' o' rb p0 p1 p2 p3 p4 s/\as I17 w o w' o'
theorem DA:(Tryz.prog.info? 80).map (λi=>(i.zero,i.size,i.bytes))=G1 (G1 (.agg #[.int .i64 0,.int .i64 0,.int .i64 0]),3,24):=by kernel_rfl
theorem eE (w:G9)(o:Nat->Nat)(rb:Nat)(p0 p1 p2 p3 p4:He)(s:Dp)(op a b:Nat)(hM:DW w o rb p0 p1 p2 p3 p4 s) :
  Hn G5 35 #[.pointer (G1 ⟨rb,0,G0⟩),.int .i64 (op:Nat),.int .i64 (a:Nat),.int .i64 (b:Nat)] w (fI w o rb p0 p1 p2 p3 p4 (s.puts op a b) (.int .i64 (s.at1:Nat))):=by
 obtain⟨wl,vc,vn,vk,vw,q0,q1,q2,q3,q4⟩:=hM;obtain⟨⟨c4,c5,c6,c7,c8,c9,c10,c11⟩,cf⟩:=fq q0.1;obtain⟨aw,cw,rfl⟩:=q1.form;by_cases hl:32768<=s.ws.length
 ·have e1:s.puts op a b={ s with lg:=true }:=by unfold Dp.puts;rw[if_pos hl]
  have e2:s.at1=0:=by unfold Dp.at1;rw[if_pos hl]
  rw[e1,e2];have hlI:(32768:Int)<=(s.ws.length:Int):=by omega
  have f11:=cf 11;have T:as (λk=>k=1) w o (w.setCell ⟨rb,11,G0⟩ (.bool true)) o:=(as.refl _ w o).setCell ⟨rb,11,G0⟩ _ q0.2;have HZ:Hid (DW (w.setCell ⟨rb,11,G0⟩ (.bool true)) o rb p0 p1 p2 p3 p4 { s with lg:=true }/\as I17 w o (w.setCell ⟨rb,11,G0⟩ (.bool true)) o) :=
   ⟨⟨wl,vc,vn,vk,_,q0.set 11 (.bool true),q1.step T (by decide),q2.step T (by decide),q3.step T (by decide),q4.step T (by decide)⟩,T.mono (fC (by decide))⟩
  clear q0 q1 q2 q3 q4 T e1 e2 cf hl;go_enter Tryz.func35,Tryz.ntmps35;go_wp2;go_ret;exact⟨rfl,o,HZ.out⟩
 ·have e1:s.puts op a b={ s with ws:=s.ws++[⟨op,a,b⟩] }:=by unfold Dp.puts;rw[if_neg hl]
  have e2:s.at1=s.ws.length:=by unfold Dp.at1;rw[if_neg hl]
  rw[e1,e2];have hlI:¬(32768:Int)<=(s.ws.length:Int):=by omega
  obtain⟨ii,i1,i2,i3,i4⟩:=eo DA;have HL:=Hg hl;have q0h:=Hg q0;have q2h:=Hg q2;have q3h:=Hg q3;have q4h:=Hg q4;clear q0 q2 q3 q4 e1 e2 hl;go_enter Tryz.func35,Tryz.ntmps35;go_wp2_with (first|(at_builtin;refine eb rfl _ _ 72 rfl 80 ii (.agg #[.int .i64 0,.int .i64 0,.int .i64 0]) 3 24 Tryz.underlying72 i1 i2 i3 i4 rfl (by decide) o 2 _ s.ws.length (lI s.ws) rfl (q1.step (as.ofBelow (I:=λ_=>False) o (b1 _ _)) id) ⟨w.heap.size,0,G0⟩ 1 1 [.int .i64 (op:Nat),.int .i64 (a:Nat),.int .i64 (b:Nat)] rfl rfl ?hn1 ?hn2 (by decide) ?hn4 ?hn5 ?_)|go_in)
  case hn2=>exact⟨rfl,rfl,rfl⟩
  case hn4=>have:=HL.out;unfold Hu;omega
  case hn5=>have:=HL.out;omega
  intro g2 cap2 w2 o2 R2 S2;have S1:∀ {I:Nat->Prop},as I w o (w.alloc (.cells #[.int .i64 (op:Nat),.int .i64 (a:Nat),.int .i64 (b:Nat)] 80)) o:=λ{I}=>as.ofBelow (I:=I) o (b1 _ _);have S12:=(S1 (I:=λk=>k=2)).trans S2;have k0:=q0h.out.step S12 (by decide);have T:as (λk=>k=1) w2 o2 (w2.setCell ⟨rb,8,G0⟩ (.slice (G1 ⟨g2,0,G0⟩) (s.ws.length+1) cap2)) o2:=(as.refl _ w2 o2).setCell ⟨rb,8,G0⟩ _ k0.2;have R3:=R2.step T (by decide);have hll:(s.ws++[(⟨op,a,b⟩:Wo)]).length=s.ws.length+1:=by simp
  have HZ:Hid (DW (w2.setCell ⟨rb,8,G0⟩ (.slice (G1 ⟨g2,0,G0⟩) (s.ws.length+1) cap2)) o2 rb p0 p1 p2 p3 p4 { s with ws:=s.ws++[⟨op,a,b⟩] }/\as I17 w o (w2.setCell ⟨rb,8,G0⟩ (.slice (G1 ⟨g2,0,G0⟩) (s.ws.length+1) cap2)) o2):=by
   have hl:=HL.out;refine⟨⟨by simp only[hll];omega,vc,vn,vk,_,k0.set 8 _,?_,(q2h.out.step S12 (by decide)).step T (by decide),(q3h.out.step S12 (by decide)).step T (by decide),(q4h.out.step S12 (by decide)).step T (by decide)⟩,(S12.mono (fC (by decide))).trans (T.mono (fC (by decide)))⟩;simp only[hll,tx];exact R3
  obtain⟨⟨d4,d5,d6,d7,d8,d9,d10,d11⟩,df⟩:=fq k0.1;have f8:=df 8;have hz:DW (w2.setCell ⟨rb,8,G0⟩ (.slice (G1 ⟨g2,0,G0⟩) (s.ws.length+1) cap2)) o2 rb p0 p1 p2 p3 p4 { s with ws:=s.ws++[⟨op,a,b⟩] }:=HZ.out.1;have hc8:=k0.set 8 (.slice (G1 ⟨g2,0,G0⟩) (s.ws.length+1) cap2);obtain⟨⟨-,-,-,-,m8,-,-,-⟩,-⟩:=fq hc8.1;have hsub:((s.ws.length+1:Nat):Int)-1=(s.ws.length:Int):=by omega
  clear q0h q2h q3h q4h S1 S12 S2 k0 T R3 R2 q1 hz hc8 hll df cf d4 d5 d6 d7 d9 d10 d11;go_wp2;go_ret;exact⟨by first|rfl|(simp;done)|(congr 1;simp),o2,HZ.out⟩
theorem eO (w:G9)(o:Nat->Nat)(rb:Nat)(p0 p1 p2 p3 p4:He)(s:Dp)(n:Int)(m:Nat)(hz:s.sz m)(hm:m<=1000000000)(hn:-1000000000<=n/\n<=1000000000)(hM:DW w o rb p0 p1 p2 p3 p4 s) :
  Hn G5 65 #[.pointer (G1 ⟨rb,0,G0⟩),.int .i64 n] w (fI w o rb p0 p1 p2 p3 p4 (s.grows n) (.tuple #[])):=by
 obtain⟨wl,vc,vn,vk,vw,q0,q1,q2,q3,q4⟩:=hM;obtain⟨-,-,z1,z2,z3,z4⟩:=hz;obtain⟨x,hx⟩:∃x,x=s.h+n:=⟨_,rfl⟩;obtain⟨T,hT⟩:∃T,T=max s.top x:=⟨_,rfl⟩;have e1:s.grows n={ s with h:=x,top:=T,lg:=s.lg||decide (1024<T) }:=by rw[hT,hx];rfl
 rw[e1];have HMX:Hid ((if s.top<x then x else s.top)=T):=by show _=_;rw[hT];split<;>omega
 have HMY:Hid (max s.top x=T):=hT.symm;have HMZ:Hid (s.h+n=x):=hx.symm;have d1:∀ wx:G9,as (λ_=>False) wx o wx.drew o:=λwx=>(as.refl _ wx o).drew;have T1:as (λk=>k=1) w o (w.setCell ⟨rb,9,G0⟩ (.int .i64 x)) o:=(as.refl _ w o).setCell _ _ q0.2;have T2:=(T1.setCell ⟨rb,10,G0⟩ (.int .i64 T) q0.2).drew;have r0:=q0.set 9 (.int .i64 x);have r1:=(r0.set 10 (.int .i64 T)).step (d1 _) id;obtain⟨⟨c4,c5,c6,c7,c8,c9,c10,c11⟩,cf⟩:=fq q0.1;obtain⟨⟨k4,k5,k6,k7,k8,k9,k10,k11⟩,kf⟩:=fq r0.1;obtain⟨⟨t4,t5,t6,t7,t8,t9,t10,t11⟩,tf⟩:=fq r1.1;have cf9:=cf 9;have kf10:=kf 10;have tf11:=tf 11;have HF0:Hid (¬1024<T->DW ((w.setCell ⟨rb,9,G0⟩ (.int .i64 x)).setCell ⟨rb,10,G0⟩ (.int .i64 T)).drew o rb p0 p1 p2 p3 p4 { s with h:=x,top:=T,lg:=s.lg||decide (1024<T) }):=λhb=>by
  refine⟨wl,vc,vn,vk,vw,?_,q1.step T2 (by decide),q2.step T2 (by decide),q3.step T2 (by decide),q4.step T2 (by decide)⟩;simp only[decide_eq_false hb,Bool.or_false];exact r1
 have T3:=T2.setCell ⟨rb,11,G0⟩ (.bool true) q0.2;have HF1:Hid (1024<T->DW (((w.setCell ⟨rb,9,G0⟩ (.int .i64 x)).setCell ⟨rb,10,G0⟩ (.int .i64 T)).drew.setCell ⟨rb,11,G0⟩ (.bool true)) o rb p0 p1 p2 p3 p4 { s with h:=x,top:=T,lg:=s.lg||decide (1024<T) }):=λhb=>by
  refine⟨wl,vc,vn,vk,vw,?_,q1.step T3 (by decide),q2.step T3 (by decide),q3.step T3 (by decide),q4.step T3 (by decide)⟩;simp only[decide_eq_true hb,Bool.or_true];exact r1.set 11 _
 have HT:=Hg (And.intro (T2.mono (fC (by decide))) (T3.mono (fC (by decide))));clear hT hx e1 T1 T2 T3 r0 r1 q0 q1 q2 q3 q4 d1 cf kf tf k4 k5 k6 k7 k8 k11 t4 t5 t6 t7 t8 t9 c4 c5 c6 c7 c8 c10;go_enter Tryz.func65,Tryz.ntmps65;go_upto_region 1 with fail;rw[HMZ.out];generalize w.setCell ⟨rb,9,G0⟩ (.int .i64 x)=wA at *;go_region
 all_goals
  first|rw[HMX.out] | rw[HMY.out]
  generalize (wA.setCell ⟨rb,10,G0⟩ (.int .i64 T)).drew=wB at *;by_cases hb:1024<T
  ·have F:=HF1.out hb;have G:=HT.out.2;clear HF0 HF1 HT HMX HMY HMZ;go_wp2
   go_end0
   exact⟨rfl,o,F,G⟩
  ·have F:=HF0.out hb;have G:=HT.out.1;clear HF0 HF1 HT HMX HMY HMZ;go_wp2
   go_end0
   exact⟨rfl,o,F,G⟩
theorem k_c (w:G9)(o:Nat->Nat)(rb:Nat)(p0 p1 p2 p3 p4:He)(s:Dp)(n:Int)(hl:s.cs.length<=100000000)(hM:DW w o rb p0 p1 p2 p3 p4 s) :
  Hn G5 64 #[.pointer (G1 ⟨rb,0,G0⟩),.int .i64 n] w (fI w o rb p0 p1 p2 p3 p4 (s.kI n) (.int .i64 (s.cs.idxOf n:Nat))):=by
 have hM':=hM;obtain⟨wl,vc,vn,vk,vw,q0,q1,q2,q3,q4⟩:=hM;obtain⟨⟨c4,c5,c6,c7,c8,c9,c10,c11⟩,cf⟩:=fq q0.1;obtain⟨ii,i1,i2,i3,i4⟩:=eo qW;obtain⟨ao,cap,rfl⟩:=q2.form;have HC:Hid (∀ j,j<s.cs.length->∃g,ao=G1 ⟨g,0,G0⟩/\w.cell? ⟨g,j,G0⟩=G1 (.int .i64 (s.cs.getD j 0))):=λj hj=>by
  obtain⟨g,cap',e,-,-,-,-,hc,-⟩:=q2.pos (by omega);injection e with e1 e2 e3
  refine⟨g,e1,?_⟩;rw[hc j (by omega)];simp[eiV,hj,Ib]
 have q1h:=Hg q1;have q3h:=Hg q3;have q4h:=Hg q4;have q0h:=Hg q0;have HM:=Hg hM';clear q0 q1 q3 q4 hM' c4 c6 c7 c8 c9 c10 c11 cf;go_enter Tryz.func64,Tryz.ntmps64;go_wp2_with fail;go_loopw [5] (λv wr=>∃i:Nat,v=.int .i64 (i:Nat)/\i<=s.cs.length/\Hid (n ∉ s.cs.take i)/\wr=w) (λv _=>s.cs.length-(Ih v).toNat)
 case atStart=>exact⟨0,by go_num,by omega,by show _ ∉ _;simp,rfl⟩
 case round =>
  obtain⟨i,rfl,hi,HN,rfl⟩:=hrel;by_cases hlt:i<s.cs.length
  ·have hkI:(i:Int)<(s.cs.length:Int):=by omega
   obtain⟨g,rfl,cg⟩:=HC.out i hlt;have hget:s.cs.getD i 0=s.cs[i]:=by simp[Ib,hlt]
   by_cases he:s.cs.getD i 0=n
   ·have hin:n ∈ s.cs:=by rw[<-he,hget];exact IU hlt
    have hix:s.cs.idxOf n=i:=by
     have h1:s.cs=s.cs.take i++s.cs.drop i:=(J2 i s.cs).symm;rw[h1,Kz,if_neg HN.out,Jd hlt,<-hget,he];simp;omega
    have e1:s.kI n=s:=by unfold Dp.kI;rw[if_pos hin]
    rw[e1,hix];rw[he] at cg;clear HC q0h q1h q3h q4h he hget hin hix e1 q2 HN;go_wp2;go_ret;exact⟨rfl,o,HM.out,as.refl _ _ _⟩
   ·have HN2:Hid (n ∉ s.cs.take (i+1)):=by
     show _ ∉ _;rw[Jj hlt];intro hm;rcases List.mem_append.1 hm with hm|hm
     ·exact HN.out hm
     ·simp at hm;exact he (by rw[hget,hm])
    generalize s.cs.getD i 0=y at *;clear HC q0h q1h q3h q4h hget q2 HN;go_wp2;go_roundw
    case rel=>(try ((repeat apply Hv);refine⟨?_,rfl⟩));exact⟨i+1,by go_num,by omega,HN2,by trivial⟩
    case measure=>simp[Ih];omega
  ·have hkI:¬(i:Int)<(s.cs.length:Int):=by omega
   obtain rfl:i=s.cs.length:=by omega
   have hin:n ∉ s.cs:=by have:=HN.out;rwa [Ke] at this
   have HX:Hid (s.kI n={ s with cs:=s.cs++[n] }/\s.cs.idxOf n=s.cs.length):=⟨by unfold Dp.kI;rw[if_neg hin],mI hin⟩;have hn1:s.cs.length+1<=Hu:=by unfold Hu;omega
   have hn2:(s.cs.length+1)*8<=140737488355328:=by omega
   have pr:=q2.step (as.ofBelow (I:=λ_=>False) o (b1 wr (.cells #[.int .i64 n] 3))) id;clear HC HN hin;go_wp2_with (first|(at_builtin;refine eb rfl _ _ 35 rfl 3 ii (.int .i64 0) 1 8 Iu i1 i2 i3 i4 rfl (by decide) o 3 (.slice ao s.cs.length cap) s.cs.length (eiV s.cs) rfl pr ⟨wr.heap.size,0,G0⟩ 1 1 [.int .i64 n] rfl rfl (fM _ _ _) (ku _ rfl) (by decide) hn1 hn2 ?_)|go_in);intro g1 cp w2 o2 R2 S2;have s2:as (λk=>k=3) wr o w2 o2:=(as.ofBelow o (b1 wr _)).trans S2;have r0:=q0h.out.step s2 (by decide);obtain⟨⟨d4,d5,d6,d7,d8,d9,d10,d11⟩,df⟩:=fq r0.1;have df5:=df 5;have s3:as (λk=>k=1) w2 o2 (w2.setCell ⟨rb,5,G0⟩ (.slice (G1 ⟨g1,0,G0⟩) (s.cs.length+1) cp)) o2:=fo _ w2 o2 ⟨rb,5,G0⟩ _ r0.2;have HF:Hid (DW (w2.setCell ⟨rb,5,G0⟩ (.slice (G1 ⟨g1,0,G0⟩) (s.cs.length+1) cp)) o2 rb p0 p1 p2 p3 p4 (s.kI n)/\as I17 wr o (w2.setCell ⟨rb,5,G0⟩ (.slice (G1 ⟨g1,0,G0⟩) (s.cs.length+1) cp)) o2):=by
    rw[HX.out.1];refine⟨⟨wl,_,vn,vk,vw,r0.set 5 _,(q1h.out.step s2 (by decide)).step s3 (by decide),?_,(q3h.out.step s2 (by decide)).step s3 (by decide),(q4h.out.step s2 (by decide)).step s3 (by decide)⟩,(s2.mono (fC (by decide))).trans (s3.mono (fC (by decide)))⟩
    have:=R2.step s3 (by decide)
    have e:(s.cs++[n]).length=s.cs.length+1:=by simp
    have e2:eiV (s.cs++[n])=eiV s.cs++[.int .i64 n]:=by simp[eiV]
    simp only[e,e2];exact this
   have rz:=r0.set 5 (.slice (G1 ⟨g1,0,G0⟩) (s.cs.length+1) cp);obtain⟨⟨-,m5,-,-,-,-,-,-⟩,-⟩:=fq rz.1;have HI:Hid (s.cs.idxOf n=s.cs.length):=HX.out.2;have hsub:((s.cs.length+1:Nat):Int)-1=(s.cs.length:Int):=by omega
   clear s2 s3 R2 S2 pr r0 rz q0h q1h q3h q4h q2 HX d4 d6 d7 d8 d9 d10 d11 df HM;go_wp2;go_ret;exact⟨by rw[HI.out];first|rfl|(simp;done)|(congr 1;simp),o2,HF.out⟩
theorem s_c (w:G9)(o:Nat->Nat)(rb:Nat)(p0 p1 p2 p3 p4:He)(s:Dp)(n:List UInt8)(hk:n.length<=Hu)(hl:s.ns.length<=100000000)(hM:DW w o rb p0 p1 p2 p3 p4 s) :
  Hn G5 178 #[.pointer (G1 ⟨rb,0,G0⟩),stv n] w (fI w o rb p0 p1 p2 p3 p4 (s.kN n) (.int .i64 (s.ns.idxOf n:Nat))):=by
 have hM':=hM;obtain⟨wl,vc,vn,vk,vw,q0,q1,q2,q3,q4⟩:=hM;obtain⟨⟨c4,c5,c6,c7,c8,c9,c10,c11⟩,cf⟩:=fq q0.1;obtain⟨ii,i1,i2,i3,i4⟩:=eo uD;obtain⟨ao,cap,rfl⟩:=q3.form;have HC:Hid (∀ j,j<s.ns.length->∃g,ao=G1 ⟨g,0,G0⟩/\w.cell? ⟨g,j,G0⟩=G1 (stv (s.ns.getD j []))):=λj hj=>by
  obtain⟨g,cap',e,-,-,-,-,hc,-⟩:=q3.pos (by omega);injection e with e1 e2 e3
  refine⟨g,e1,?_⟩;rw[hc j (by omega)];simp[esV,hj,Ib]
 have q1h:=Hg q1;have q2h:=Hg q2;have q4h:=Hg q4;have q0h:=Hg q0;have HM:=Hg hM';clear q0 q1 q2 q4 hM' c4 c5 c7 c8 c9 c10 c11 cf;go_enter Tryz.func178,Tryz.ntmps178;go_wp2_with fail;go_loopw [5] (λv wr=>∃i:Nat,v=.int .i64 (i:Nat)/\i<=s.ns.length/\Hid (n ∉ s.ns.take i)/\wr=w) (λv _=>s.ns.length-(Ih v).toNat)
 case atStart=>exact⟨0,by go_num,by omega,by show _ ∉ _;simp,rfl⟩
 case round =>
  obtain⟨i,rfl,hi,HN,rfl⟩:=hrel;by_cases hlt:i<s.ns.length
  ·have hkI:(i:Int)<(s.ns.length:Int):=by omega
   obtain⟨g,rfl,cg⟩:=HC.out i hlt;have hget:s.ns.getD i []=s.ns[i]:=by simp[Ib,hlt]
   by_cases he:s.ns.getD i []=n
   ·have hin:n ∈ s.ns:=by rw[<-he,hget];exact IU hlt
    have hix:s.ns.idxOf n=i:=by
     have h1:s.ns=s.ns.take i++s.ns.drop i:=(J2 i s.ns).symm;rw[h1,Kz,if_neg HN.out,Jd hlt,<-hget,he];simp;omega
    have e1:s.kN n=s:=by unfold Dp.kN;rw[if_pos hin]
    rw[e1,hix];rw[he] at cg;clear HC q0h q1h q2h q4h he hget hin hix e1 q3 HN;go_wp2;go_ret;exact⟨rfl,o,HM.out,as.refl _ _ _⟩
   ·have HN2:Hid (n ∉ s.ns.take (i+1)):=by
     show _ ∉ _;rw[Jj hlt];intro hm;rcases List.mem_append.1 hm with hm|hm
     ·exact HN.out hm
     ·simp at hm;exact he (by rw[hget,hm])
    generalize s.ns.getD i []=y at *;have hyn2:(y==n)=false:=by simpa using he
    clear HC q0h q1h q2h q4h hget q3 HN;go_wp2;go_roundw
    case rel=>(try ((repeat apply Hv);refine⟨?_,rfl⟩));exact⟨i+1,by go_num,by omega,HN2,by trivial⟩
    case measure=>simp[Ih];omega
  ·have hkI:¬(i:Int)<(s.ns.length:Int):=by omega
   obtain rfl:i=s.ns.length:=by omega
   have hin:n ∉ s.ns:=by have:=HN.out;rwa [Ke] at this
   have HX:Hid (s.kN n={ s with ns:=s.ns++[n] }/\s.ns.idxOf n=s.ns.length):=⟨by unfold Dp.kN;rw[if_neg hin],mI hin⟩;have hn1:s.ns.length+1<=Hu:=by unfold Hu;omega
   have hn2:(s.ns.length+1)*16<=140737488355328:=by omega
   have pr:=q3.step (as.ofBelow (I:=λ_=>False) o (b1 wr (.cells #[stv n] 9))) id;clear HC HN hin;go_wp2_with (first|(at_builtin;refine eb rfl _ _ 40 rfl 9 ii (.string ⟨#[]⟩) 1 16 Ju i1 i2 i3 i4 rfl (by decide) o 4 (.slice ao s.ns.length cap) s.ns.length (esV s.ns) rfl pr ⟨wr.heap.size,0,G0⟩ 1 1 [stv n] rfl rfl (fM _ _ _) (ku _ rfl) (by decide) hn1 hn2 ?_)|go_in);intro g1 cp w2 o2 R2 S2;have s2:as (λk=>k=4) wr o w2 o2:=(as.ofBelow o (b1 wr _)).trans S2;have r0:=q0h.out.step s2 (by decide);obtain⟨⟨d4,d5,d6,d7,d8,d9,d10,d11⟩,df⟩:=fq r0.1;have df5:=df 6;have s3:as (λk=>k=1) w2 o2 (w2.setCell ⟨rb,6,G0⟩ (.slice (G1 ⟨g1,0,G0⟩) (s.ns.length+1) cp)) o2:=fo _ w2 o2 ⟨rb,6,G0⟩ _ r0.2;have HF:Hid (DW (w2.setCell ⟨rb,6,G0⟩ (.slice (G1 ⟨g1,0,G0⟩) (s.ns.length+1) cp)) o2 rb p0 p1 p2 p3 p4 (s.kN n)/\as I17 wr o (w2.setCell ⟨rb,6,G0⟩ (.slice (G1 ⟨g1,0,G0⟩) (s.ns.length+1) cp)) o2):=by
    rw[HX.out.1];refine⟨⟨wl,vc,_,vk,vw,r0.set 6 _,(q1h.out.step s2 (by decide)).step s3 (by decide),(q2h.out.step s2 (by decide)).step s3 (by decide),?_,(q4h.out.step s2 (by decide)).step s3 (by decide)⟩,(s2.mono (fC (by decide))).trans (s3.mono (fC (by decide)))⟩
    have:=R2.step s3 (by decide)
    have e:(s.ns++[n]).length=s.ns.length+1:=by simp
    have e2:esV (s.ns++[n])=esV s.ns++[stv n]:=by simp[esV]
    simp only[e,e2];exact this
   have rz:=r0.set 6 (.slice (G1 ⟨g1,0,G0⟩) (s.ns.length+1) cp);obtain⟨⟨-,-,m6,-,-,-,-,-⟩,-⟩:=fq rz.1;have HI:Hid (s.ns.idxOf n=s.ns.length):=HX.out.2;have hsub:((s.ns.length+1:Nat):Int)-1=(s.ns.length:Int):=by omega
   clear s2 s3 R2 S2 pr r0 rz q0h q1h q2h q4h q3 HX d4 d5 d7 d8 d9 d10 d11 df HM;go_wp2;go_ret;exact⟨by rw[HI.out];first|rfl|(simp;done)|(congr 1;simp),o2,HF.out⟩
theorem gM (w:G9)(o:Nat->Nat)(rb:Nat)(p0 p1 p2 p3 p4:He)(s:Dp)(n:Int)(kd m:Nat)(hz:s.sz m)(hm:m+2<=100000000)(hM:DW w o rb p0 p1 p2 p3 p4 s) :
  Hn G5 63 #[.pointer (G1 ⟨rb,0,G0⟩),.int .i64 n,.int .i64 (kd:Nat)] w (fI w o rb p0 p1 p2 p3 p4 (s.val n kd) (.tuple #[])):=by
 have H1:=k_c w o rb p0 p1 p2 p3 p4 s n (by have:=hz.c;omega) hM;have hz2:=(dV (s.kI n) 1 (s.cs.idxOf n) kd).sz _ ((ow s n).sz m hz);clear hM;go_enter Tryz.func63,Tryz.ntmps63;go_wp2_with (first|(go_at_call 64;refine H1.mono ?_;rintro e w2 ⟨rfl,o2,E2,S2⟩;have H2:=eE w2 o2 rb p0 p1 p2 p3 p4 (s.kI n) 1 (s.cs.idxOf n) kd E2)|(go_at_call 35;refine H2.mono ?_;rintro e w3 ⟨rfl,o3,E3,S3⟩;have H3:=eO w3 o3 rb p0 p1 p2 p3 p4 _ 1 _ hz2 (by omega) (by omega) E3)|(go_at_call 65;refine H3.mono ?_;rintro e w4 ⟨rfl,o4,E4,S4⟩))
 go_end0
 exact⟨rfl,o4,E4,(S2.trans S3).trans S4⟩
theorem th:∀ {l:List Wo}{i j:Nat}{x:Wo}{u:He} (hi:i<l.length),(j=1\/j=2)->(j7 l[i]).set j u=j7 x->(lI l).set (i*3+j) u=lI (l.set i x)
 | y::l,0,j,x,u,_,hj,h=>by
  have h':(j7 y).set j u=j7 x:=h;simp only[lI,Ic,I4,Ix];rw[List.set_append_left _ _ (by simp[j7];omega),h']
 | y::l,i+1,j,x,u,hi,hj,h=>by
  have hi':i<l.length:=by simpa using hi
  have h':(j7 l[i]).set j u=j7 x:=h;simp only[lI,Id];rw[List.set_append_right _ _ (by simp[j7];omega),<-th hi' hj h']
  congr 2
  simp[j7];omega
theorem f7 (w:G9)(o:Nat->Nat)(rb:Nat)(p0 p1 p2 p3 p4:He)(s:Dp)(i:Nat)(hi:s.lg=false->i<s.ws.length)(hM:DW w o rb p0 p1 p2 p3 p4 s) :
  Hn G5 114 #[.pointer (G1 ⟨rb,0,G0⟩),.int .i64 (i:Nat)] w (fI w o rb p0 p1 p2 p3 p4 (s.lands i) (.tuple #[])):=by
 have hM':=hM;obtain⟨wl,vc,vn,vk,vw,q0,q1,q2,q3,q4⟩:=hM;obtain⟨⟨c4,c5,c6,c7,c8,c9,c10,c11⟩,cf⟩:=fq q0.1;by_cases hlg:s.lg=true
 ·have e1:s.lands i=s:=by unfold Dp.lands;rw[if_pos hlg]
  rw[e1];rw[hlg] at c11;have HM:=Hg hM';clear q0 q1 q2 q3 q4 hM' e1 hi;go_enter Tryz.func114,Tryz.ntmps114;go_wp2
  go_end0
  exact⟨rfl,o,HM.out,as.refl _ _ _⟩
 ·have hlf:s.lg=false:=by simpa using hlg
  have hil:=hi hlf;have e1:s.lands i={ s with ws:=s.ws.set i ((s.ws[i]).to s.ws.length) }:=by unfold Dp.lands;rw[if_neg hlg,qr hil]
  rw[e1];rw[hlf] at c11;obtain⟨g,cap,rfl,og,-,-,hgl,hc,hf⟩:=q1.pos (by omega);have hat:∀ j,j<3->w.cell? ⟨g,i*3+j,G0⟩=(j7 s.ws[i])[j]?:=λj hj=>by
   rw[hc (i*3+j) (by omega),rQ s.ws i j s.ws[i] (Hd hil) hj]
  have f1:=hf (i*3+1);have f2:=hf (i*3+2);have d1:∀ wx:G9,as (λ_=>False) wx o wx.drew o:=λwx=>(as.refl _ wx o).drew;have HS:Hid (∀ j,j=1\/j=2->(j7 s.ws[i]).set j (.int .i64 (s.ws.length:Nat))=j7 ((s.ws[i]).to s.ws.length)->DW (w.setCell ⟨g,i*3+j,G0⟩ (.int .i64 (s.ws.length:Nat))).drew o rb p0 p1 p2 p3 p4 { s with ws:=s.ws.set i ((s.ws[i]).to s.ws.length) }/\as I17 w o (w.setCell ⟨g,i*3+j,G0⟩ (.int .i64 (s.ws.length:Nat))).drew o):=λj hj he=>by
   have T:as (λk=>k=2) w o (w.setCell ⟨g,i*3+j,G0⟩ (.int .i64 (s.ws.length:Nat))).drew o:=((as.refl _ w o).setCell _ _ og).drew;refine⟨⟨by simp;exact wl,vc,vn,vk,_,q0.step T (by decide),?_,q2.step T (by decide),q3.step T (by decide),q4.step T (by decide)⟩,T.mono (fC (by decide))⟩;have r1:=(q1.store (i*3+j) (.int .i64 (s.ws.length:Nat))).step (d1 _) id;have e3:(s.ws.set i ((s.ws[i]).to s.ws.length)).length=s.ws.length:=by simp
   simp only[e3];rw[<-th hil hj he];exact r1
  have hiI:(i:Int)<(s.ws.length:Int):=by omega
  obtain⟨⟨op,oa,ob⟩,hx⟩:∃x,x=s.ws[i]:=⟨_,rfl⟩;rw[<-hx] at hat HS ⊢;have x0:w.cell? ⟨g,i*3,G0⟩=G1 (.int .i64 (op:Nat)):=hat 0 (by omega);have x1:w.cell? ⟨g,i*3+1,G0⟩=G1 (.int .i64 (oa:Nat)):=hat 1 (by omega);have x2:w.cell? ⟨g,i*3+2,G0⟩=G1 (.int .i64 (ob:Nat)):=hat 2 (by omega);by_cases ho:op=17
  ·subst ho;have F:=Hg (HS.out 2 (.inr rfl) rfl);clear HS q0 q1 q2 q3 q4 hM' e1 hi hc hf hat d1 hx c5 c6 c7 c9 c10 cf;go_enter Tryz.func114,Tryz.ntmps114;go_upto_region 2 with fail;go_region
   all_goals
    go_end0
    exact⟨rfl,o,F.out⟩
  ·have hop:((op:Int)==17)=false:=by simp;omega
   have hto:(⟨op,oa,ob⟩:Wo).to s.ws.length=⟨op,s.ws.length,ob⟩:=by unfold Wo.to;rw[if_neg ho]
   have F:=Hg (HS.out 1 (.inl rfl) (by rw[hto];rfl));clear HS q0 q1 q2 q3 q4 hM' e1 hi hc hf hat d1 hx c5 c6 c7 c9 c10 cf hto;go_enter Tryz.func114,Tryz.ntmps114;go_upto_region 3 with fail;go_region
   all_goals
    go_end0
    exact⟨rfl,o,F.out⟩
structure Rl (K:Nat->Int)(u:Nat)(s:Em)(d:Dp):Prop where
 ok:okQ s
 ul:u<=s.dp
 ws:d.ws=s.ws
 cs:d.cs=s.cs
 ns:d.ns=s.ns
 kl:d.ks.length=s.ks.length
 ks:∀ i,i<s.ks.length->(d.ks.getD i 0=0/\s.ks.getD i 0=1)\/(d.ks.getD i 0=K i/\s.ks.getD i 0=K i)
 h:d.h=(u:Int)
 top:d.top=(s.dp:Int)
 lg:d.lg=false
def Ry (K:Nat->Int)(u:Nat)(s:Em)(d:Dp):Prop:=(okQ s->Rl K u s d)/\(¬okQ s->d.lg=true)
theorem Ry.step {K:Nat->Int}{u v:Nat}{s t:Em}{d e:Dp}(h:Ry K u s d)(q:Qle s t)(k:d.lg=true->e.lg=true)(r:Rl K u s d->Ry K v t e):Ry K v t e:=by
 by_cases o:okQ s
 ·exact r (h.1 o)
 ·exact⟨λo'=>absurd (q.ok o') o,λ_=>k (h.2 o)⟩
theorem Ry.of {K:Nat->Int}{u:Nat}{s:Em}{d:Dp}(h:Rl K u s d):Ry K u s d:=⟨λ_=>h,λn=>absurd h.ok n⟩
theorem eY {K:Nat->Int}{u:Nat}{s:Em}{d:Dp}(op a a' b:Nat)(h:Ry K u s d)(ha:okQ s->a'=a):Ry K u (s.lay op a b) (d.puts op a' b):=by
 refine h.step (ey s op a b) (dV d op a' b).lg (λr=>?_);rw[ha r.ok];unfold Dp.puts;rw[r.ws];by_cases hl:32768<=s.ws.length
 ·rw[if_pos hl];exact⟨λo=>by have:=o.1;simp[Em.lay] at this;omega,λ_=>rfl⟩
 ·rw[if_neg hl];refine Ry.of ⟨⟨by simp[Em.lay];omega,r.ok.2⟩,r.ul,?_,r.cs,r.ns,r.kl,r.ks,r.h,r.top,r.lg⟩;simp[Em.lay]
def Em.up (s:Em)(u:Nat):Em:=⟨s.ws,s.cs,s.ns,s.ks,max s.dp (u+1)⟩
theorem CH (s:Em)(op a b u:Nat):s.push op a b u=(s.lay op a b).up u:=rfl
theorem Et (s:Em)(u:Nat):Qle s (s.up u):=⟨G4 _,by simp only[Em.up];omega⟩
theorem F6 {K:Nat->Int}{u:Nat}{s:Em}{d:Dp}(h:Ry K u s d):Ry K (u+1) (s.up u) (d.grows 1):=by
 refine h.step (Et s u) (eA d 1 1 (by omega) (by omega)).lg (λr=>?_);have e1:max d.top (d.h+1)=((max s.dp (u+1):Nat):Int):=by rw[r.top,r.h];omega
 by_cases hm:max s.dp (u+1)<=1024
 ·refine Ry.of ⟨⟨r.ok.1,hm⟩,by simp only[Em.up];omega,r.ws,r.cs,r.ns,r.kl,r.ks,?_,?_,?_⟩
  ·simp only[Dp.grows];rw[r.h];omega
  ·simp only[Dp.grows];exact e1
  ·simp only[Dp.grows,r.lg,e1];simp;omega
 ·refine⟨λo=>absurd o.2 hm,λ_=>?_⟩;simp only[Dp.grows,e1];simp;right;omega
theorem fm {K:Nat->Int}{u:Nat}{s:Em}{d:Dp}(v:Nat)(x:Int)(h:Ry K u s d)(hv:v<=u)(hx:x=(v:Int)-(u:Int)):Ry K v s (d.grows x):=by
 refine h.step (Qle.refl s) (λh=>by simp[Dp.grows,h]) (λr=>?_);have hu:=r.ul;have hd:=r.ok.2;have e1:max d.top (d.h+x)=(s.dp:Int):=by rw[r.top,r.h];omega
 refine Ry.of ⟨r.ok,by omega,r.ws,r.cs,r.ns,r.kl,r.ks,?_,?_,?_⟩
 ·simp only[Dp.grows];rw[r.h];omega
 ·simp only[Dp.grows];exact e1
 ·simp only[Dp.grows,r.lg,e1];simp;omega
theorem rq {K:Nat->Int}{u:Nat}{s:Em}{d:Dp}(op a a' b:Nat)(h:Ry K u s d)(ha:okQ s->a'=a):Ry K (u+1) (s.push op a b u) ((d.puts op a' b).grows 1):=by
 rw[CH];exact F6 (eY op a a' b h ha)
theorem D8 {K:Nat->Int}{u:Nat}{s:Em}{d:Dp}(n:Int)(h:Ry K u s d):Ry K u (s.kc n) (d.kI n):=by
 refine h.step (tT s n) (ow d n).lg (λr=>?_);exact Ry.of ⟨r.ok,r.ul,r.ws,by simp only[Em.kc,Dp.kI,r.cs],r.ns,r.kl,r.ks,r.h,r.top,r.lg⟩
theorem GK {K:Nat->Int}{u:Nat}{s:Em}{d:Dp}(n:List UInt8)(h:Ry K u s d):Ry K u (s.kn n) (d.kN n):=by
 refine h.step (zu s n) (vu d n).lg (λr=>?_);exact Ry.of ⟨r.ok,r.ul,r.ws,r.cs,by simp only[Em.kn,Dp.kN,r.ns],r.kl,r.ks,r.h,r.top,r.lg⟩
theorem js {K:Nat->Int}{u:Nat}{s:Em}{d:Dp}(n:Int)(kd:Nat)(h:Ry K u s d):Ry K (u+1) (s.con n kd u) (d.val n kd) :=
 rq 1 _ _ kd (D8 n h) (λo=>by rw[(h.1 o).cs])
theorem lo {K:Nat->Int}{u:Nat}{s:Em}{d:Dp}(i i':Nat)(h:Ry K u s d)(hi:okQ s->i'=i):Ry K u (s.land i) (d.lands i'):=by
 refine h.step (iI s i) (eJ d i').lg (λr=>?_);rw[hi r.ok];unfold Dp.lands;rw[if_neg (by rw[r.lg];decide),r.ws];exact Ry.of ⟨⟨by simp[Em.land];exact r.ok.1,r.ok.2⟩,r.ul,rfl,r.cs,r.ns,r.kl,r.ks,r.h,r.top,r.lg⟩
theorem oG {l:List Int}{i j:Nat}{k x:Int}:(l.set i k).getD j x=if i=j/\i<l.length then k else l.getD j x:=by
 rw[Ib,Ib,List.getElem?_set];by_cases e:i=j
 ·subst e;by_cases hl:i<l.length
  ·rw[if_pos rfl,if_pos hl,if_pos ⟨rfl,hl⟩];rfl
  ·rw[if_pos rfl,if_neg hl,if_neg (λh=>hl h.2),Ie (by omega)]
 ·rw[if_neg e,if_neg (λh=>e h.1)]
theorem FI {K:Nat->Int}{u:Nat}{s:Em}{d:Dp}(i:Nat)(k:Int)(h:Ry K u s d)(hk:k=K i):Ry K u (s.cel i k) (d.cel i k):=by
 refine h.step (wD s i k) (rL d i k).lg (λr=>?_);subst hk;have hkl:=r.kl;unfold Dp.cel;by_cases h0:d.ks.getD i 0=0
 ·rw[if_pos h0];refine Ry.of ⟨r.ok,r.ul,r.ws,r.cs,r.ns,by simp[Em.cel];exact r.kl,λj hj=>?_,r.h,r.top,r.lg⟩;simp only[Em.cel,List.length_set] at hj ⊢;rw[oG,oG];by_cases e:i=j
  ·subst e;rw[if_pos ⟨rfl,by omega⟩,if_pos ⟨rfl,by omega⟩];exact .inr ⟨rfl,rfl⟩
  ·rw[if_neg (λh=>e h.1),if_neg (λh=>e h.1)];exact r.ks j hj
 ·rw[if_neg h0];refine Ry.of ⟨r.ok,r.ul,r.ws,r.cs,r.ns,by simp[Em.cel];exact r.kl,λj hj=>?_,r.h,r.top,r.lg⟩;simp only[Em.cel,List.length_set] at hj ⊢;rw[oG];by_cases e:i=j
  ·subst e;rw[if_pos ⟨rfl,hj⟩];rcases r.ks i hj with h1|h1
   ·exact absurd h1.1 h0
   ·exact .inr ⟨h1.1,rfl⟩
  ·rw[if_neg (λh=>e h.1)];exact r.ks j hj
theorem mX {K:Nat->Int}{u:Nat}{s t:Em}{d:Dp}(h:Ry K u s d)(q:Qle s t)(hl:s.ws.length+1<=t.ws.length)(o:okQ t):d.at1=s.ws.length:=by
 have r:=h.1 (q.ok o);unfold Dp.at1;rw[r.ws,if_neg (by have:=o.1;omega)]
theorem Bl {K:Nat->Int}{u:Nat}{s t:Em}{d:Dp}(h:Ry K u s d)(q:Qle s t)(o:okQ t):d.ws.length=s.ws.length:=by
 rw[(h.1 (q.ok o)).ws]
structure Rp (K:Nat->Int)(b:Nat)(t:Tr)(d:Td):Prop where
 q:Qtr t
 k:∀ ar s,s.lg=true->(d ar s).lg=true
 r:∀ ar u s e,Ry K u s e->Ry K (u+b) (t ar u s) (d ar e)
def Rps (K:Nat->Int):List Tr->List Td->Int->Nat->Prop
 | [],[],_,_=>True
 | t::T,d::D,pk,i=>Rp K (if pk=21/\i=0 then 0 else 1) t d/\Rps K T D pk (i+1)
 | _,_,_,_=>False
theorem zG {K:Nat->Int}(ar u pk:Int)(hp:pk≠21):∀ (T:List Tr) (D:List Td) (i j ar u:Nat) (s:Em) (e:Dp),Rps K T D pk i->Ry K (u+j) s e->Ry K (u+j+T.length) (nF T j ar u s) (fS D ar e)
 | [],[],_,_,_,_,_,_,_,h=>h
 | t::T,d::D,i,j,ar,u,s,e,hT,h=>by
  have h1:=hT.1.r ar (u+j) s e h;rw[if_neg (λh=>hp h.1)] at h1;have h2:=zG 0 0 pk hp T D (i+1) (j+1) ar u _ _ hT.2 h1;simp only[Hy,nF,fS];rw[show u+j+(T.length+1)=u+(j+1)+T.length by omega];exact h2
 | [],d::D,_,_,_,_,_,_,h,_=>by simp[Rps] at h
 | t::T,[],_,_,_,_,_,_,h,_=>by simp[Rps] at h
theorem nJ {K:Nat->Int}{pk:Int}:∀ (T:List Tr) (D:List Td) (i j:Nat),Rps K T D pk i->j<T.length->Rp K (if pk=21/\i+j=0 then 0 else 1) (T.getD j noT) (D.getD j noD)
 | t::T,d::D,i,0,h,_=>h.1
 | t::T,d::D,i,j+1,h,hj=>by
  have:=nJ T D (i+1) j h.2 (by simpa using hj)
  rw[show i+1+j=i+(j+1) by omega] at this;simpa using this
 | [],_,_,_,_,h=>by simp at h
 | t::T,[],_,_,h,_=>by simp[Rps] at h
theorem wN {K:Nat->Int}{pk:Int}:∀ (T:List Tr) (D:List Td) (i:Nat),Rps K T D pk i->D.length=T.length
 | [],[],_,_=>rfl
 | t::T,d::D,i,h=>by simp only[Hy,wN T D (i+1) h.2]
 | [],d::D,_,h=>by simp[Rps] at h
 | t::T,[],_,h=>by simp[Rps] at h
theorem rg {K:Nat->Int}{u:Nat}(h:Nat):∀ (l:List Int) (i:Nat) (s:Em) (e:Dp),Ry K u s e->Ry K u (iL h l i s) (jF h l i e)
 | [],_,_,_,r=>r
 | x::l,i,s,e,r=>by
  unfold iL jF;refine r.step ?_ ?_ (λq=>?_)
  ·split
   ·exact(ey s 19 i 0).trans (im h l (i+1) _)
   ·exact im h l (i+1) s
  ·intro hl;rw[if_pos hl];exact hl
  ·by_cases hx:x=(h:Int)
   ·rw[if_pos hx,if_neg (by rw[q.lg];decide),if_pos hx];exact rg h l (i+1) _ _ (eY 19 i i 0 r (λ_=>rfl))
   ·rw[if_neg hx,if_neg (by rw[q.lg];decide),if_neg hx];exact rg h l (i+1) _ _ r
theorem kY (s:Em)(op a b:Nat):(s.lay op a b).ws.length=s.ws.length+1:=by simp[Em.lay]
theorem Cy (s:Em)(n:Int)(kd u:Nat):(s.con n kd u).ws.length=s.ws.length+1:=by simp[Em.con,Em.push,Em.kc]
theorem Fe {K:Nat->Int}(k:Int){t0 t1 t2:Tr}{d0 d1 d2:Td}(h0:Rp K 1 t0 d0)(h1:Rp K 1 t1 d1)(h2:k≠17->k≠18->Rp K 1 t2 d2)(ar u:Nat)(s:Em)(e:Dp)(h:Ry K u s e) :
  Ry K (u+1) ((t0 ar u s).fork (if k=18 then 15 else 14) (t1 ar u) (λx=>if k=17 then x.con 0 2 u else if k=18 then x.con 1 2 u else t2 ar u x)) (Bs k d0 d1 d2 ar e):=by
 unfold Em.fork Bs
 dsimp only
 generalize hop:(if k=18 then 15 else 14)=op;have ra:=h0.r ar u s e h;generalize t0 ar u s=A at ra ⊢;generalize d0 ar e=a at ra ⊢;have rb:Ry K u (A.lay op 0 0) ((a.puts op 0 0).grows (-1)):=fm u (-1) (eY op 0 0 0 ra (λ_=>rfl)) (by omega) (by omega);have rc:=h1.r ar u _ _ rb;have qc:=h1.q ar u (A.lay op 0 0);generalize t1 ar u (A.lay op 0 0)=C at rc qc ⊢;generalize d1 ar ((a.puts op 0 0).grows (-1))=c at rc ⊢;have rd:Ry K u (C.lay 13 0 0) ((c.puts 13 0 0).grows (-1)):=fm u (-1) (eY 13 0 0 0 rc (λ_=>rfl)) (by omega) (by omega);have hA:=kY A op 0 0;have hqc:=qc.ws;have re:=lo A.ws.length a.at1 rd (λo=>mX ra (((ey A op 0 0).trans qc).trans (ey C 13 0 0)) (by rw[kY];omega) o);have qe:Qle C ((C.lay 13 0 0).land A.ws.length):=(ey C 13 0 0).trans (iI _ _);have le:C.ws.length+1<=((C.lay 13 0 0).land A.ws.length).ws.length:=by simp[Em.land,Em.lay]
 generalize (C.lay 13 0 0).land A.ws.length=E at re qe le ⊢;generalize ((c.puts 13 0 0).grows (-1)).lands a.at1=e' at re ⊢;have hf:Ry K (u+1) (if k=17 then E.con 0 2 u else if k=18 then E.con 1 2 u else t2 ar u E) (if k=17 then e'.val 0 2 else if k=18 then e'.val 1 2 else d2 ar e')/\Qle E (if k=17 then E.con 0 2 u else if k=18 then E.con 1 2 u else t2 ar u E):=by
  by_cases k17:k=17
  ·rw[if_pos k17,if_pos k17];exact⟨js 0 2 re,fK _ _ _ _⟩
  ·rw[if_neg k17,if_neg k17];by_cases k18:k=18
   ·rw[if_pos k18,if_pos k18];exact⟨js 1 2 re,fK _ _ _ _⟩
   ·rw[if_neg k18,if_neg k18];exact⟨(h2 k17 k18).r ar u _ _ re,(h2 k17 k18).q ar u E⟩
 exact lo _ _ hf.1 (λo=>mX rc (qe.trans hf.2) (In le hf.2.ws) o)
theorem CI {K:Nat->Int}(n:Nat)(kd:Int)(hkd:kd=K n){t0:Tr}{d0:Td}(h0:Rp K 1 t0 d0)(ar u:Nat)(s:Em)(e:Dp)(h:Ry K u s e) :
  Ry K (u+1) (((t0 ar u ((s.cel n kd).lay 17 n 0)).lay 18 n 0).land s.ws.length) (um n kd d0 ar e):=by
 unfold um;have rc:=FI n kd h hkd;have ra:=eY 17 n n 0 rc (λ_=>rfl);have rb:=h0.r ar u _ _ ra;have qb:=h0.q ar u ((s.cel n kd).lay 17 n 0);have hA:=kY (s.cel n kd) 17 n 0;have hw:(s.cel n kd).ws.length=s.ws.length:=rfl;have hq:=qb.ws;refine lo _ _ (eY 18 n n 0 rb (λ_=>rfl)) (λo=>?_);show _=(s.cel n kd).ws.length;exact mX rc (((ey _ _ _ _).trans qb).trans (ey _ _ _ _)) (by rw[kY];omega) o
theorem ER {K:Nat->Int}(n:Int)(hn:n=1\/n=2)(g i g' i':Nat)(u:Nat)(X:Em)(e:Dp)(h:Ry K (u+1) X e)(hg:okQ X->g'=g/\i'=i) :
  Ry K (u+1) (((((((X.lay (if n=2 then 14 else 15) g 0).lay 25 0 0).con (if n=2 then 1 else 0) 2 u).lay 13 0 0).land i).con (if n=2 then 0 else 1) 2 u).land ((((X.lay (if n=2 then 14 else 15) g 0).lay 25 0 0).con (if n=2 then 1 else 0) 2 u).ws.length)) (qK n g' i' e):=by
 unfold qK
 dsimp only
 generalize (if n=2 then 14 else 15)=op;generalize (if n=2 then (1:Int) else 0)=x;generalize (if n=2 then (0:Int) else 1)=y;have ra:Ry K u (X.lay op g 0) ((e.puts op g' 0).grows (-1)):=fm u (-1) (eY op g g' 0 h (λo=>(hg o).1)) (by omega) (by omega);have rb:=js x 2 (eY 25 0 0 0 ra (λ_=>rfl));have qx:Qle X (((X.lay op g 0).lay 25 0 0).con x 2 u):=((ey _ _ _ _).trans (ey _ _ _ _)).trans (fK _ _ _ _);generalize ((X.lay op g 0).lay 25 0 0).con x 2 u=C at rb qx ⊢;generalize (((e.puts op g' 0).grows (-1)).puts 25 0 0).val x 2=c at rb ⊢;have rd:Ry K u (C.lay 13 0 0) ((c.puts 13 0 0).grows (-1)):=fm u (-1) (eY 13 0 0 0 rb (λ_=>rfl)) (by omega) (by omega);have re:=lo i i' rd (λo=>(hg ((qx.trans (ey C 13 0 0)).ok o)).2);have rf:=js y 2 re;refine lo _ _ rf (λo=>mX rb (((ey C 13 0 0).trans (iI _ _)).trans (fK _ _ _ _)) ?_ o);rw[Cy];simp[Em.land,Em.lay]
theorem Fw {K:Nat->Int}(n:Int)(hn:3<=n)(g g' u v:Nat)(X:Em)(e:Dp)(h:Ry K (v+1) X e)(hv:v=if 5<=n then u+2 else u+1)(hg:okQ X->g'=g) :
  Ry K v (if n=3 then ((X.lay 14 g 0).con 1 1 (u+1)).lay 6 0 0 else if n=4 then X.lay 6 0 0 else X.lay 26 (n-5).toNat 0) (pD n g' e):=by
 unfold pD;by_cases h3:n=3
 ·rw[if_pos h3,if_pos h3];rw[if_neg (by omega)] at hv;subst hv;have ra:Ry K (u+1) (X.lay 14 g 0) ((e.puts 14 g' 0).grows (-1)):=fm (u+1) (-1) (eY 14 g g' 0 h hg) (by omega) (by omega);exact fm (u+1) (-1) (eY 6 0 0 0 (js 1 1 ra) (λ_=>rfl)) (by omega) (by omega)
 ·rw[if_neg h3,if_neg h3];by_cases h4:n=4
  ·rw[if_pos h4,if_pos h4];exact fm v (-1) (eY 6 0 0 0 h (λ_=>rfl)) (by omega) (by omega)
  ·rw[if_neg h4,if_neg h4];exact fm v (-1) (eY 26 _ _ 0 h (λ_=>rfl)) (by omega) (by omega)
theorem wj (n:Int)(g u:Nat)(X:Em):Qle X (if n=3 then ((X.lay 14 g 0).con 1 1 (u+1)).lay 6 0 0 else if n=4 then X.lay 6 0 0 else X.lay 26 (n-5).toNat 0):=by
 split
 ·exact((ey _ _ _ _).trans (fK _ _ _ _)).trans (ey _ _ _ _)
 split
 ·exact ey _ _ _ _
 ·exact ey _ _ _ _
theorem FF {K:Nat->Int}(n:Int)(hn:3<=n)(g i g' i' u v:Nat)(X:Em)(e:Dp)(h:Ry K (v+1) X e)(hv:v=if 5<=n then u+2 else u+1)(hg:okQ X->g'=g/\i'=i) :
  Ry K (u+1) (if 5<=n then (((if n=3 then ((X.lay 14 g 0).con 1 1 (u+1)).lay 6 0 0 else if n=4 then X.lay 6 0 0 else X.lay 26 (n-5).toNat 0).lay 13 g 0).land i).lay 27 0 0
   else ((if n=3 then ((X.lay 14 g 0).con 1 1 (u+1)).lay 6 0 0 else if n=4 then X.lay 6 0 0 else X.lay 26 (n-5).toNat 0).lay 13 g 0).land i) (pE n g' i' e):=by
 unfold pE
 dsimp only
 have rm:=Fw n hn g g' u v X e h hv (λo=>(hg o).1);have qm:=wj n g u X;generalize (if n=3 then ((X.lay 14 g 0).con 1 1 (u+1)).lay 6 0 0 else if n=4 then X.lay 6 0 0 else X.lay 26 (n-5).toNat 0)=M at rm qm ⊢;generalize pD n g' e=m at rm ⊢;have rl:=lo i i' (eY 13 g g' 0 rm (λo=>(hg (qm.ok o)).1)) (λo=>(hg ((qm.trans (ey M 13 g 0)).ok o)).2);by_cases h5:5<=n
 ·rw[if_pos h5] at hv;rw[if_pos h5,if_pos h5];subst hv;exact fm (u+1) (-1) (eY 27 0 0 0 rl (λ_=>rfl)) (by omega) (by omega)
 ·rw[if_neg h5] at hv;rw[if_neg h5,if_neg h5];subst hv;exact rl
end Go.Proofs.YtkhgahljbpmfaaaGreatDoor
