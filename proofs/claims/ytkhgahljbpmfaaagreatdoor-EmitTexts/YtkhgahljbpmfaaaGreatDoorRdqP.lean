import Derived.Test.YtkhgahljbpmfaaaGreatDoorDocD
set_option maxRecDepth 100000
set_option maxHeartbeats 8000000
namespace Go.Proofs.YtkhgahljbpmfaaaGreatDoor
open Option renaming none->GA,some->GB,isSome_some->Ju,isSome_none->Jv
open Nat renaming le_refl->GC,lt_of_lt_of_le->GM,le_trans->Hn,not_lt_zero->Hr,add_zero->Hs,le_succ->Hv,zero_add->Hx,zero_mul->IB,zero_le->Jh,eq_zero_or_pos->Jw,one_mul->JF,lt_or_ge->JJ,sub_self->JR
open Go.Proofs.Tryz renaming prog->GD,underlying35->Hu,results120->IN,results72->J1,results28->J2
open Go renaming World->GE,lt_of_block->GF,bodyPost_ret->GG,heap_alloc_new->GH,Value->GJ,heap_setCell_other->GP,Calls->GR,maxLen->GY,Addr->G1,TypeId->Hl,Ending->IG
open List renaming getElem?_eq_getElem->GI,getElem?_eq_none->He,mem_of_find?_eq_some->Hi,not_mem_nil->Io,mem_cons->Iq,mem_of_getElem?->Is,nil_append->Iy,cons_append->IP,find?_some->IU,eq_nil_of_length_eq_zero->I1,append_assoc->Jk,append_nil->Jz,map_append->JU
open Go.RowKit renaming Below->GK,intOf->Hh,wrap64->Ho
open Go.Lib renaming hid->GL
open Go.RowKit.Below renaming refl->GN,heap_alloc->GO
open Bool renaming and_eq_true->Ha,or_eq_true->IV
open Go.World renaming cell?_of_block->GS,alloc->Ib
open Go.Value renaming int->GT
open Exists renaming intro->G0
open Int renaming toNat_natCast->If
open Go.IntKind renaming wrap_i64->Ii
open Go.Act renaming eval->JY
open Go.Value.slice renaming injEq->Ir
open Option.some renaming injEq->IQ
open Ne renaming symm->Jn
open Go.ChangeShapes Go.WideShapes Go.ChangeAt Go.RowKit
set_option linter.unusedVariables false
set_option linter.unusedSimpArgs false
theorem Kp.cell {a b:Nat}{w w':GE}(h:Kp a b w w'){g:Nat}(c:g<w.heap.size)(e:g≠a)(d:g≠b)(j:Nat):w'.cell? ⟨g,j,GA⟩=w.cell? ⟨g,j,GA⟩:=GS (a:=⟨g,j,GA⟩) (h.block g c e d)
theorem fK {w w':GE}{wb a:Nat}{bv:GJ}{nc:Nat}{st:Dg}{g:Int}{r:Option (Rg × Int)}(b:r=anD st g)(W:WD w' wb a bv nc st)(K:Kp wb a w w'):eA w wb a bv nc r (.returned (.int .i64 g)) w':=by
 subst b;cases st with
 | none=>exact⟨⟨g,rfl,λs k h=>by cases h⟩,W,K⟩
 | some s=>exact⟨⟨g,rfl,λs k h=>by injection h with h;injection h⟩,W,K⟩
theorem Cp {N:Nat}(IH:ms N)(e t x:Ex)(ao:Option G1)(cap wb c:Nat)(bv:GJ)(cells:List Int)(ar b:Nat)(s:Rg)(w:GE)(G:e.kids=Fs.ex t (Fs.ex x .nil))(hN:e.kids.size<=N)(hf:fs e)(af:b<=4)(ag:ar<=b)(H:wb≠c)(h:WD w wb c bv cells.length (GB s))(hn:Inw w (Nf2 wb c) bv cells)(S:SlN w (Nf2 wb c) e.kids ao) :
  GR GD 175 #[.pointer (GB ⟨wb,0,GA⟩),exN e ao cap,.int .i64 ar,.int .i64 b] w (eA w wb c bv cells.length (anD (eS cells (eS cells (GB s) 4 t ar (b+1)) (fC e.n) x (ar+1) (b+1)) (fq e.n))):=by
 have hl:e.kids.len=2:=by rw[G];rfl
 have HK:Hid (e.kids=Fs.ex t (Fs.ex x .nil)):=G;have ab:e.kids.size=t.kids.size+(x.kids.size+0+1)+1:=by rw[G];rfl
 have J:fs t:=hf.kid (d:=.nil) G;have I:fs x:=hf.kid (d:=Fs.ex t .nil) G;have HL:Hid (e.kids.len=2):=hl;clear G hl;have U:GK w.heap.size w (w.alloc (zNv e.k e.n e.nm ao 2 cap)):=(GN _ w).alloc (GC _) _;have T:(w.alloc (zNv e.k e.n e.nm ao 2 cap)).heap[w.heap.size]?=GB (zNv e.k e.n e.nm ao 2 cap):=GH w _;have W:=h.below U;have P:=S.belowP U;have N0:=hn.below U;have D:=h.lt;have ad:=h.ltk;clear h S hn;rw[dS,HL.out];go_enter Tryz.func175,Tryz.ntmps175;go_upto_region 1 with fail;generalize w.alloc (zNv e.k e.n e.nm ao 2 cap)=w0 at *;have X:Kp wb c w w0:=Kp.ofBelow U;obtain⟨bx,K⟩:=exq w.heap.size;rw[<-K] at T ⊢;have y:bx≠wb:=by omega
 have u:bx≠c:=by omega
 clear K D ad U;obtain⟨p0,p1,p2,p3,V⟩:=el T;by_cases h4:b=4
 ·subst h4;have HR:Hid (eA w wb c bv cells.length (anD (eS cells (eS cells (GB s) 4 t ar (4+1)) (fC e.n) x (ar+1) (4+1)) (fq e.n)) (.returned (.int .i64 0)) (w0.setCell ⟨wb,3,GA⟩ (.bool false))):=by
   rw[xC (by omega)];obtain⟨V0,-,ai,V1,-⟩:=W;exact⟨⟨0,rfl,λs k h=>by cases h⟩,⟨by simpa using GF V1,_,_,(ke V0 (.bool false)).2⟩,X.set _ _ (.inr (.inl rfl))⟩
  obtain⟨V0,-,-⟩:=W;obtain⟨q0,q1,q2,q3,qf⟩:=el V0;clear P N0 X;go_wp2;exact GG (v:=.int .i64 0) (by simp[results,Tryz.results175,go_sem]) rfl HR.out
 ·have D:((b:Int)==4)=false:=by simp;omega
  have O:SlN w0 (Nf2 wb c) (Fs.nil.app (Fs.ex t (Fs.ex x .nil))) ao:=by rw[HK.out] at P;exact P
  obtain⟨gb,off,ak,ck,p,y0,y1,y2,y3,M⟩:=SlN.kidP O 0 rfl;subst p;simp only[IB,Hs] at y0 y1 y2 y3;have c1:=FU IH t ak ck wb c bv cells ar (b+1) s w0 (by omega) J (by omega) (by omega) H W N0 M;have g:((b+1:Nat):Int)=(b:Int)+1:=rfl;have i:((ar+1:Nat):Int)=(ar:Int)+1:=rfl;rw[dS,g] at c1;go_wp2_with fail;refine c1.mono ?_;rintro z wc ⟨rfl,W1,Q⟩;have Y:=(Q.block _ (GF T) y u).trans T;have S1:SlN wc (Nf2 wb c) ((Fs.ex t .nil).app (Fs.ex x .nil)) (GB ⟨gb,off,GA⟩):=by
   have:=P.kp Q
   rw[HK.out] at this;exact this
  have N1:=N0.kp Q;have KW:=X.trans Q;clear c1 p0 p1 p2 p3 V y0 y1 y2 y3 M O P W N0 T Q X;obtain⟨p0,p1,p2,p3,V⟩:=el Y;have F:=GF Y;obtain⟨ah,ae,ak,ck,p,q,f,x0,x1,x2,x3,M⟩:=SlN.kidQ (x:=Fs.ex t .nil) (r:=.nil) (ks:=x.kids) (k:=x.k) (n:=x.n) (nm:=x.nm) (a:=x.a) S1;injection p with p
  injection p with h1 h2
  subst h1;subst h2;have B:(Fs.ex t .nil).len=1:=rfl;simp only[B,JF] at x0 x1 x2 x3;have A:GK wc.heap.size wc wc.drew:=⟨rfl,rfl,rfl,GC _,λ_ _=>rfl⟩;have C:fC e.n≠4:=by unfold fC;split<;>omega
  have c3:=lJ IH x ak ck wb c bv cells (ar+1) (b+1) (fC e.n) (eS cells (GB s) 4 t ar (b+1)) wc.drew (λ_=>by omega) I (by omega) (by omega) H (λ_=>C) (W1.below A) (N1.below A) (M.belowP A);rw[dS,g,i] at c3;have c3:=λ(a1 a2:Int) (h1:a1=(ar:Int)+1) (h2:a2=(b:Int)+1)=>(by rw[h1,h2];exact c3:GR GD 174 #[.pointer (GB ⟨wb,0,GA⟩),.agg #[.int .i64 x.k,.int .i64 x.n,stv x.nm,.slice ak x.kids.len ck],.int .i64 a1,.int .i64 a2,.int .i64 (fC e.n)] wc.drew (jD wc.drew wb c bv cells.length (eS cells (eS cells (GB s) 4 t ar (b+1)) (fC e.n) x (ar+1) (b+1))));have E:=λZ=>Al e.n Z;have aa:=λZ=>qY e.n Z;obtain⟨bo,o⟩:=exq (fC e.n);rw[<-o] at c3 E ⊢;have ac:Hid (fC e.n=bo):=o.symm;obtain⟨l,m⟩:=exq (eS cells (eS cells (GB s) 4 t ar (b+1)) bo x (ar+1) (b+1));rw[<-m] at c3;have R:Hid (anD (eS cells (eS cells (GB s) 4 t ar (b+1)) bo x (ar+1) (b+1)) (fq e.n)=anD l (fq e.n)):=by show _=_;rw[m]
  clear m o C W1 N1 M S1 IH HK HL ab J I hf hN h4 D g i B p0 p2 V;go_upto_region 5 with fail;go_cut [] (λwx=>WD wx wb c bv cells.length l/\Kp wb c wc wx)
  case first =>
   go_wp2_with fail;go_region_held3 (λwx=>wx.cell? ⟨bx,1,GA⟩=GB (.int .i64 e.n)/\wx.cell? ⟨bx,3,GA⟩=GB (.slice (GB ⟨gb,off,GA⟩) 2 cap)/\wx.cell? ⟨gb,off+4,GA⟩=GB (.int .i64 x.k)/\wx.cell? ⟨gb,off+4+1,GA⟩=GB (.int .i64 x.n)/\wx.cell? ⟨gb,off+4+2,GA⟩=GB (stv x.nm)/\wx.cell? ⟨gb,off+4+3,GA⟩=GB (.slice ak x.kids.len ck))
    (first|exact KA|go_keep)
    (first
     | (go_at_call 195;refine(E _).mono ?_;rintro z w3 ⟨rfl,rfl⟩)
     | (go_at_call 174;refine(c3 _ _ ?_ ?_).mono ?_;(rw[Ii];omega);(rw[Ii];omega);rintro z w3 ⟨rfl,L,j⟩;have KA:w3.cell? ⟨bx,1,GA⟩=GB (.int .i64 e.n)/\w3.cell? ⟨bx,3,GA⟩=GB (.slice (GB ⟨gb,off,GA⟩) 2 cap)/\w3.cell? ⟨gb,off+4,GA⟩=GB (.int .i64 x.k)/\w3.cell? ⟨gb,off+4+1,GA⟩=GB (.int .i64 x.n)/\w3.cell? ⟨gb,off+4+2,GA⟩=GB (stv x.nm)/\w3.cell? ⟨gb,off+4+3,GA⟩=GB (.slice ak x.kids.len ck):=⟨(j.cell F y u _).trans p1,(j.cell F y u _).trans p3,(j.cell q f.1 f.2 _).trans x0,(j.cell q f.1 f.2 _).trans x1,(j.cell q f.1 f.2 _).trans x2,(j.cell q f.1 f.2 _).trans x3⟩))
   all_goals (
    have HZ:Hid (WD w3 wb c bv cells.length l/\Kp wb c wc w3):=⟨L,Kp.bel A j⟩;clear KA L j c3 E;go_wp2;go_meet;exact HZ.out)
  case rest =>
   obtain⟨L,j⟩:=hcut;have E3:=(j.block _ F y u).trans Y;obtain⟨p0,p1,p2,p3,V⟩:=el E3;have HR:Hid (eA w wb c bv cells.length (anD (eS cells (eS cells (GB s) 4 t ar (b+1)) bo x (ar+1) (b+1)) (fq e.n)) (.returned (.int .i64 (fq e.n))) wc):=fK R.out L (KW.trans j);clear L j KW R Y E3;generalize fq e.n=wh at *;go_wp2_with (go_at_call 177;refine(aa _).mono ?_;rintro z w4 ⟨rfl,rfl⟩);go_wp2;exact GG (v:=.int .i64 wh) (by simp[results,Tryz.results175,go_sem]) rfl (by rw[ac.out];exact HR.out)
open Go.ChangeShapes Go.WideShapes Go.ChangeAt Go.RowKit Go.Maps
abbrev Lt0 (n0:Nat):Nat->Prop:=λk=>k<n0
structure RD (w:GE)(n0 rb mb:Nat)(bv:GJ)(c:Nat)(s:Rg):Prop where
 blk:w.heap[rb]?=GB (.cells #[bv,.map (GB mb),.int .i64 (s.1:Nat)] 170 (0,0))
 mp:∃m,m+c<=s.1/\MpN w (Lt0 n0) mb m s.2
 le:s.1<=4096
 fit:∀ i y,s.2 i=GB y->fs y
theorem RD.ltm {w:GE}{n0 rb mb c:Nat}{bv:GJ}{s:Rg}(h:RD w n0 rb mb bv c s):mb<w.heap.size:=by obtain⟨m,-,h⟩:=h.mp;exact h.lt
theorem RD.less {w:GE}{n0 rb mb c:Nat}{bv:GJ}{s:Rg}(h:RD w n0 rb mb bv (c+1) s):RD w n0 rb mb bv c s:=⟨h.blk,by obtain⟨m,b,a⟩:=h.mp;exact⟨m,by omega,a⟩,h.le,h.fit⟩
theorem RD.below {w w':GE}{n0 rb mb c:Nat}{bv:GJ}{s:Rg}(h:RD w n0 rb mb bv c s)(b:GK w.heap.size w w'):RD w' n0 rb mb bv c s:=by
 refine⟨(b.block _ (GF h.blk)).trans h.blk,?_,h.le,h.fit⟩;obtain⟨m,d,a⟩:=h.mp;exact⟨m,d,a.mono (b.block _ a.lt) (λi _ e=>b.block i e) b.size⟩
def mN (w:GE)(n0 rb mb:Nat)(bv:GJ)(c:Nat)(r:Option Rg)(x:IG)(w':GE):Prop:=x=.returned (.bool r.isSome)/\(∀ s,r=GB s->RD w' n0 rb mb bv c s)/\Kp rb mb w w'
theorem yL {cells:List Int}{i:Nat}{x:Ex}{ar:Nat}{s:Rg}{lv:Int}(h:cells[i]?=GB lv):fO cells (i:Nat) (Fs.ex x .nil) ar s=if (ar:Int)<lv\/lv<hgE x ar then GA else (match s.2 i with|none=>GB (s.1,λj=>if j=i then GB x else s.2 j)|some y=>if eN y x=true then GB s else GA):=by
 have a:(Fs.ex x .nil).head=x:=rfl;simp only[fO,If,h,a];rfl
theorem BM (k0:Int)(i:Nat)(nm:List UInt8)(x:Ex)(ao:Option G1)(cap n0 rb mb:Nat)(bv:GJ)(cells:List Int)(ar wi:Nat)(s:Rg)(w:GE)(hi:i<cells.length)(a0:cells.length<=256)(F:fs x)(aD:x.nv)(a9:ar<=100)(aT:wi<=100)(aE:rb≠mb)(aF:n0<=mb)(c:Nat)(h:RD w n0 rb mb bv (c+1) s)(hn:Inw w (Lt0 n0) bv cells)(S:SlN w (Lt0 n0) (Fs.ex x .nil) ao) :
  GR GD 185 #[.pointer (GB ⟨rb,0,GA⟩),.agg #[.int .i64 k0,.int .i64 i,stv nm,.slice ao 1 cap],.agg #[.int .i64 ar,.int .i64 wi]] w (mN w n0 rb mb bv c (fO cells (i:Nat) (Fs.ex x .nil) ar s)):=by
 obtain⟨R,hR⟩:=exq (fO cells (i:Nat) (Fs.ex x .nil) ar s);rw[<-hR];obtain⟨lv,ai⟩:∃lv,cells[i]?=GB lv:=⟨_,GI hi⟩;have HR:Hid (R=if (ar:Int)<lv\/lv<hgE x ar then GA else (match s.2 i with|none=>GB (s.1,λj=>if j=i then GB x else s.2 j)|some y=>if eN y x=true then GB s else GA)):=hR.trans (yL ai);clear hR;obtain⟨gb,off,ak,ck,aJ,v,aY,y0,y1,y2,y3,SK⟩:=SlN.kidQ (x:=.nil) (r:=.nil) (ks:=x.kids) (k:=x.k) (n:=x.n) (nm:=x.nm) (a:=x.a) S;subst aJ;have aI:(Fs.nil).len=0:=rfl;simp only[aI,IB,Hs] at y0 y1 y2 y3;obtain⟨bb,d,rfl,f⟩:=hn;rcases f with f|⟨cb,b,rfl,aZ,ad,am⟩
 ·subst f;simp at hi
 have aq:=am i lv ai;clear am S;have aX:(i:Int)<(cells.length:Int):=by omega
 obtain⟨w0,E⟩:=exq ((w.alloc (zNv k0 (i:Nat) nm (GB ⟨gb,off,GA⟩) 1 cap)).alloc (.cells #[.int .i64 ar,.int .i64 wi] 173));have L:GK w.heap.size w w0:=by rw[E];exact((GN _ w).alloc (GC _) _).alloc (by simp) _
 have E0:w0.heap[w.heap.size]?=GB (zNv k0 (i:Nat) nm (GB ⟨gb,off,GA⟩) 1 cap):=by
  rw[E];exact(GO _ _ _ (by simp)).trans (GH w _)
 have T0:w0.heap[w.heap.size+1]?=GB (.cells #[.int .i64 ar,.int .i64 wi] 173):=by
  rw[E]
  have:=GH (w.alloc (zNv k0 (i:Nat) nm (GB ⟨gb,off,GA⟩) 1 cap)) (.cells #[.int .i64 ar,.int .i64 wi] 173)
  simpa using this
 have R0:=h.below L;have o:=GF h.blk;have O:=h.ltm;have av:=SK.belowP L;have Y0:=(L.cell (p:=⟨gb,off,GA⟩) v).trans y0;have Y1:=(L.cell (p:=⟨gb,off+1,GA⟩) v).trans y1;have Y2:=(L.cell (p:=⟨gb,off+2,GA⟩) v).trans y2;have Y3:=(L.cell (p:=⟨gb,off+3,GA⟩) v).trans y3;have aN:=(L.cell (p:=⟨cb,b+i,GA⟩) ad).trans aq;have aj:=GM v L.size;have an:=GM ad L.size;have KK:Kp rb mb w w0:=Kp.ofBelow L;go_enter Tryz.func185,Tryz.ntmps185;go_upto_region 1 with fail;rw[<-E];obtain⟨bx,ap⟩:=exq w.heap.size;rw[<-ap] at E0 T0 ⊢;have a8:bx≠rb:=by omega
 have a7:bx≠mb:=by omega
 have aW:bx+1≠rb:=by omega
 have aV:bx+1≠mb:=by omega
 clear ap E L o O y0 y1 y2 y3 aq v ad h SK;have G:=GF E0;have aa:=GF T0;obtain⟨p0,p1,p2,p3,pf⟩:=el E0;obtain⟨t0,t1,tf⟩:=jd T0;obtain⟨r0,r1,r2,rf⟩:=lq R0.blk;have o:=GF R0.blk;go_wp2_with fail;go_region_held3 (λwx=>wx.cell? ⟨bx,1,GA⟩=GB (.int .i64 i)/\wx.cell? ⟨bx,3,GA⟩=GB (.slice (GB ⟨gb,off,GA⟩) 1 cap)/\wx.cell? ⟨rb,0,GA⟩=GB (.slice (GB ⟨cb,b,GA⟩) cells.length d)/\wx.cell? ⟨cb,b+i,GA⟩=GB (.int .i64 lv)/\wx.cell? ⟨gb,off,GA⟩=GB (.int .i64 x.k)/\wx.cell? ⟨gb,off+1,GA⟩=GB (.int .i64 x.n)/\wx.cell? ⟨gb,off+2,GA⟩=GB (stv x.nm)/\wx.cell? ⟨gb,off+3,GA⟩=GB (.slice ak x.kids.len ck)) (go_keep) (fail);have B1:GK w0.heap.size w0 ((w0.alloc (zNd x ak ck)).drew):=(GN _ w0).alloc (GC _) _ |>.trans ⟨rfl,rfl,rfl,GC _,λ_ _=>rfl⟩
 have X1:((w0.alloc (zNd x ak ck)).drew).heap[w0.heap.size]?=GB (zNd x ak ck):=GH w0 _;have R1:=R0.below B1;have E1:=(B1.block _ G).trans E0;have T1:=(B1.block _ aa).trans T0;have T:=av.belowP B1;have U:=KK.trans (Kp.ofBelow B1);have aQ:w0.heap.size≠rb:=by omega
 have aR:w0.heap.size≠mb:=by have:=R0.ltm;omega
 have aS:Hid (bx<w0.heap.size/\bx+1<w0.heap.size):=⟨G,aa⟩;clear p0 p1 p2 p3 pf t0 t1 tf r0 r1 r2 rf R0 E0 T0 av KK Y0 Y1 Y2 Y3 aN aj an G aa o B1;generalize (w0.alloc (zNd x ak ck)).drew=w1 at *;generalize w0.heap.size=X at *;obtain⟨p0,p1,p2,p3,pf⟩:=el E1;obtain⟨t0,t1,tf⟩:=jd T1;obtain⟨r0,r1,r2,rf⟩:=lq R1.blk;obtain⟨z0,z1,z2,z3,zf⟩:=el X1;by_cases aG:(ar:Int)<lv
 ·have V:Hid (mN w n0 rb mb (.slice (GB ⟨cb,b,GA⟩) cells.length d) c R (.returned (.bool false)) w1):=by
   rw[HR.out,if_pos (.inl aG)];exact⟨rfl,λs h=>(by cases h),U⟩
  clear HR R1 E1 T1 X1 T U;go_wp2;go_ret;exact V.out
 have c1:=tp (x.kids.size+1) x ak ck ar w1 (by omega) F.len F.sh aD (by omega) (by omega) T.all;rw[dS] at c1;generalize hgE x ar=hx at *;go_wp2_with fail;refine c1.mono ?_;rintro z w2 ⟨rfl,B2⟩;have C:=R1.below B2;have E2:=(B2.block _ (GF E1)).trans E1;have T2:=(B2.block _ (GF T1)).trans T1;have X2:=(B2.block _ (GF X1)).trans X1;have H:=T.belowP B2;have t:=U.trans (Kp.ofBelow B2);clear c1 p0 p1 p2 p3 pf t0 t1 tf r0 r1 r2 rf z0 z1 z2 z3 zf R1 E1 T1 X1 T U B2;obtain⟨p0,p1,p2,p3,pf⟩:=el E2;obtain⟨t0,t1,tf⟩:=jd T2;obtain⟨r0,r1,r2,rf⟩:=lq C.blk;obtain⟨z0,z1,z2,z3,zf⟩:=el X2;by_cases aH:lv<hx
 ·have V:Hid (mN w n0 rb mb (.slice (GB ⟨cb,b,GA⟩) cells.length d) c R (.returned (.bool false)) w2):=by
   rw[HR.out,if_pos (.inr aH)];exact⟨rfl,λs h=>(by cases h),t⟩
  clear HR C E2 T2 X2 H t;go_wp2;go_ret;exact V.out
 have K:Hid (R=(match s.2 i with|none=>GB (s.1,λj=>if j=i then GB x else s.2 j)|some y=>if eN y x=true then GB s else GA)):=by show R=_;rw[HR.out,if_neg (by omega)]
 clear HR;have D:(Lit.int .i64 i).wf=true:=WalkArith.wf_i64 (by omega);obtain⟨m,hm,M2⟩:=C.mp;have O:=M2.lt;have o:=GF C.blk;have G:=GF E2;have l:=GF X2;have au:GK w2.heap.size w2 w2.drew:=⟨rfl,rfl,rfl,GC _,λ_ _=>rfl⟩;have I:MpN w2.drew (Lt0 n0) mb m s.2:=M2.mono rfl (λ_ _ _=>rfl) (GC _);have B:GK w2.heap.size w2 ((w2.alloc (.cells #[.int .i64 0,.int .i64 0,.string ⟨#[]⟩,.slice GA 0 0] 34)).drew):=(GN _ w2).alloc (GC _) _ |>.trans ⟨rfl,rfl,rfl,GC _,λ_ _=>rfl⟩
 have J:MpN ((w2.alloc (.cells #[.int .i64 0,.int .i64 0,.string ⟨#[]⟩,.slice GA 0 0] 34)).drew) (λi=>i<w2.heap.size) mb m s.2:=M2.monoQ (B.block _ O) (λi _ hl=>B.block i hl) B.size (λi _ hl=>hl);cases Y:s.2 i with
 | none =>
  obtain⟨a1,a2,a3,a4,a5,a6,N⟩:=I.miss D Y;obtain⟨d1,d2,d3,d4,d5,d6,M⟩:=J.miss D Y;have V:Hid (∀ w3:GE,GK w2.heap.size w2 w3->∃w4,(Instr.mapUpdate 168 (.map (GB mb)) (.int .i64 i) (exN x ak ck)).run GD w3.drew=.ok () w4/\mN w n0 rb mb (.slice (GB ⟨cb,b,GA⟩) cells.length d) c R (.returned (.bool true)) w4):=by
   intro w3 b3;have q:GK w2.heap.size w2 w3.drew:=b3.trans ⟨rfl,rfl,rfl,GC _,λ_ _=>rfl⟩;have M3:MpN w3.drew (Lt0 n0) mb m s.2:=M2.mono (q.block _ O) (λi _ hl=>q.block i hl) q.size;obtain⟨w4,ac,M4,aC⟩:=M3.put (λh=>Nat.not_lt.2 aF h) i x ak ck D (by have:=C.le;omega) Y (H.belowP q);have A:=aC.grown;refine⟨w4,ac,?_⟩;rw[K.out,Y];refine⟨rfl,λs' ab=>?_,t.trans ((Kp.ofBelow q).trans ⟨A.os,A.tape,A.output,A.size,λk hk h1 h2=>A.block k hk (λe=>h2 (by cases e;rfl))⟩)⟩;injection ab with ab
   subst ab;refine⟨(A.block _ (GM o q.size) (λe=>aE (by cases e;rfl))).trans ((q.block _ o).trans C.blk),?_,C.le,?_⟩
   ·exact⟨m+1,by show m+1+c<=s.1;omega,M4.mono rfl (λ_ _ _=>rfl) (GC _)⟩
   ·intro j y hy;simp only at hy;split at hy
    ·injection hy with hy
     subst hy;exact F
    ·exact C.fit j y hy
  go_upto_region 4 with fail;go_cut [9,10] (λv9 Z wx=>Z=.bool false/\GK w2.heap.size w2 wx)
  case first =>
   go_wp2_with fail;go_region_held3 (λwx=>wx.cell? ⟨bx,1,GA⟩=GB (.int .i64 i)/\wx.cell? ⟨rb,1,GA⟩=GB (.map (GB mb))) (go_keep) (fail)
   all_goals (
    have W:Hid (∀ g:Obj,GK w2.heap.size w2 ((w2.alloc g).drew)):=λg=>(GN _ w2).alloc (GC _) _ |>.trans ⟨rfl,rfl,rfl,GC _,λ_ _=>rfl⟩
    go_wp2;go_meet;exact⟨rfl,W.out _⟩)
  case rest =>
   obtain⟨rfl,u⟩:=hcut;obtain⟨w4,ac,HP⟩:=V.out wc u;rw[dS] at ac;have HQ:Hid (mN w n0 rb mb (.slice (GB ⟨cb,b,GA⟩) cells.length d) c R (.returned (.bool true)) w4):=HP;have aP:=(u.cell (p:=⟨bx,1,GA⟩) G).trans p1;have aO:=(u.cell (p:=⟨rb,1,GA⟩) o).trans r1;have aB:=(u.cell (p:=⟨X,0,GA⟩) l).trans z0;have aA:=(u.cell (p:=⟨X,1,GA⟩) l).trans z1;have ax:=(u.cell (p:=⟨X,2,GA⟩) l).trans z2;have aw:=(u.cell (p:=⟨X,3,GA⟩) l).trans z3;clear V HP p0 p1 p2 p3 pf t0 t1 tf r0 r1 r2 rf z0 z1 z2 z3 zf C E2 T2 X2 H t M2 I J N M K au B;go_wp2_with fail;go_region;go_wp2;go_ret;exact HQ.out
 | some y =>
  obtain⟨ay,cy,N,ag⟩:=I.look D Y;obtain⟨aK,ba,M,af⟩:=J.look D Y;have al:=C.fit i y Y;have ah:Hid (R=if eN y x=true then GB s else GA):=by show R=_;rw[K.out,Y]
  rw[dS] at N M;go_upto_region 4 with fail;go_cut [9,10] (λv9 Z wx=>v9=.pointer (GB ⟨w2.heap.size,0,GA⟩)/\Z=.bool true/\GK w2.heap.size w2 wx/\∃az cz,wx.heap[w2.heap.size]?=GB (zNd y az cz)/\SnA wx y.kids az)
  case first =>
   have W:Hid (∀ g:Obj,GK w2.heap.size w2 ((w2.alloc g).drew)/\((w2.alloc g).drew).heap[w2.heap.size]?=GB g):=λg=>⟨(GN _ w2).alloc (GC _) _ |>.trans ⟨rfl,rfl,rfl,GC _,λ_ _=>rfl⟩,GH w2 g⟩;have aM:Hid (∀ g:Obj,SnA ((w2.alloc g).drew) y.kids ay):=λg=>SlN.all (SlN.mono (w:=w2) (P:=Lt0 n0) (Q:=Lt0 n0) (λi _ hl=>(W.out g).1.block i hl) (W.out g).1.size (λ_ h _=>h) (SlN.mono (w:=w2.drew) (w':=w2) (λ_ _ _=>rfl) (GC _) (λ_ h _=>h) ag));have aL:Hid (∀ g:Obj,SnA ((w2.alloc g).drew) y.kids aK):=λg=>SlN.all (SlN.mono (Q:=λi=>i<w2.heap.size) (λi hi _=>((W.out g).1.block i hi).trans (B.block i hi).symm) (by show (w2.alloc _).heap.size<=(w2.alloc _).heap.size;simp) (λ_ h _=>h) af);clear ag af M2 I J K ah;go_wp2_with fail;go_region_held3 (λwx=>wx.cell? ⟨bx,1,GA⟩=GB (.int .i64 i)/\wx.cell? ⟨rb,1,GA⟩=GB (.map (GB mb))) (go_keep) (fail)
   ·go_wp2;go_meet;exact⟨rfl,rfl,(W.out _).1,_,_,(W.out _).2,aM.out _⟩
   ·go_wp2;go_meet;exact⟨rfl,rfl,(W.out _).1,_,_,(W.out _).2,aL.out _⟩
  case rest =>
   obtain⟨rfl,rfl,u,az,cz,Z3,SZ⟩:=hcut;have c8:=vO (y.kids.size+1) y x az ak cz ck wc (by omega) al.len al.sh F.len F.sh SZ (H.belowP u).all;rw[dS,dS] at c8;have V:Hid (∀ w4,GK wc.heap.size wc w4->mN w n0 rb mb (.slice (GB ⟨cb,b,GA⟩) cells.length d) c R (.returned (.bool (eN y x))) w4):=by
    intro w4 b4;have ae:GK w2.heap.size w2 w4:=u.trans (b4.mono u.size);rw[ah.out];cases aU:eN y x with
    | false=>exact⟨rfl,λs h=>(by cases h),t.trans (Kp.ofBelow ae)⟩
    | true=>exact⟨rfl,λs' h=>(by injection h with h;subst h;exact(C.below ae).less),t.trans (Kp.ofBelow ae)⟩
   have aB:=(u.cell (p:=⟨X,0,GA⟩) l).trans z0;have aA:=(u.cell (p:=⟨X,1,GA⟩) l).trans z1;have ax:=(u.cell (p:=⟨X,2,GA⟩) l).trans z2;have aw:=(u.cell (p:=⟨X,3,GA⟩) l).trans z3;obtain⟨v0,v1,v2,v3,vf⟩:=el Z3;generalize eN y x=sm at *;clear p0 p1 p2 p3 pf t0 t1 tf r0 r1 r2 rf z0 z1 z2 z3 zf C E2 T2 X2 H t M2 I J N M K ah au B SZ ag af;go_wp2_with fail;refine c8.mono ?_;rintro z w4 ⟨rfl,B4⟩;have HQ:=V.out w4 B4;clear c8 V;go_wp2;go_ret;exact HQ
theorem Wd.kp {w w':GE}{rb mb:Nat}(h:Wd w)(K:Kp rb mb w w')(h1:3≠rb)(h2:3≠mb):Wd w':=by
 have a:=h.lt;obtain⟨t,b,h⟩:=h;exact⟨t,b,(K.block _ a h1 h2).trans h⟩
def lL (w:GE)(n0 rb mb:Nat)(bv:GJ)(c:Nat)(r:Option (Rg × Int))(x:IG)(w':GE):Prop :=
 (∃v,x=.returned (.tuple #[v,.bool r.isSome])/\∀ s k,r=GB (s,k)->kq v k)/\(∀ s k,r=GB (s,k)->RD w' n0 rb mb bv c s)/\Kp rb mb w w'
def rv (N:Nat):Prop:=∀ (e:Ex) (ao:Option G1) (cap n0 rb mb:Nat) (bv:GJ) (cells:List Int) (ar a:Nat) (s:Rg) (c:Nat) (w:GE),e.kids.size<N->fs e->a<=5->ar<=a->cells.length<=256->rb≠mb->n0<=rb->n0<=mb->3<n0->Wd w->RD w n0 rb mb bv c s->Inw w (Lt0 n0) bv cells->SlN w (Lt0 n0) e.kids ao ->
 GR GD 120 #[.pointer (GB ⟨rb,0,GA⟩),exN e ao cap,.agg #[.int .i64 ar,.int .i64 a]] w (lL w n0 rb mb bv c (rgE cells e ar a s))
def Cu (cells:List Int)(e:Ex)(ar:Nat)(b:Rg)(kd:List Int):Option (Rg × Int) :=
 if (eG e.k e.n kd).2=0\/(eG e.k e.n kd).1≠kd then GA else
  match (if e.k=26 then fO cells e.n e.kids ar b else GB b) with
  | none=>GA
  | some s2=>GB (s2,(eG e.k e.n kd).2)
def jU (cells:List Int)(e:Ex)(ar a:Nat)(r:Fs)(i:Nat)(s:Rg)(c:List Int):Option (Rg × Int) :=
 match rgF cells r e.k i ar a s with
 | none=>GA
 | some (b,kd)=>Cu cells e ar b (c++kd)
theorem Ax {cells:List Int}{e:Ex}{ar a:Nat}{s:Rg}(h:gdE cells e ar a s):rgE cells e ar a s=jU cells e ar a e.kids 0 (s.1+1,s.2) []:=by
 unfold rgE jU;rw[if_neg h];rfl
theorem yK {cells:List Int}{e:Ex}{ar b i:Nat}{s:Rg}{a:List Int}:jU cells e ar b .nil i s a=Cu cells e ar s a:=by
 unfold jU;simp only[rgF,Jz]
theorem xM {cells:List Int}{e x:Ex}{r:Fs}{ar a i:Nat}{s:Rg}{b:List Int}:jU cells e ar a (Fs.ex x r) i s b=(match rgE cells x (ep e.k i ar a).1 (ep e.k i ar a).2 s with|none=>GA|some (s2,k)=>jU cells e ar a r (i+1) s2 (b++[k])):=by
 unfold jU;rw[iL];cases rgE cells x (ep e.k i ar a).1 (ep e.k i ar a).2 s with
 | none=>rfl
 | some z =>
  obtain⟨s2,k⟩:=z;simp only;cases rgF cells r e.k (i+1) ar a s2 with
  | none=>rfl
  | some z =>
   obtain⟨c,rest⟩:=z;simp only[Jk,IP,Iy]
theorem pX {cells:List Int}{n:Int}{ks:Fs}{ar:Nat}{s s':Rg}(h:fO cells n ks ar s=GB s'):s'.1=s.1:=by
 unfold fO at h;split at h
 ·cases h
 ·split at h
  ·cases h
  ·split at h
   ·injection h with h
    rw[<-h]
   ·split at h
    ·injection h with h
     rw[<-h]
    ·cases h
theorem qX (cells:List Int):∀ (f:Fs) (pk:Int) (i ar c:Nat) (s s':Rg) (kd:List Int),rgF cells f pk i ar c s=GB (s',kd)->s.1+f.len<=s'.1
 | ⟨GA⟩,pk,i,ar,c,s,s',kd,h=>by
  simp only[rgF] at h;injection h with h
  injection h with h1 h2
  subst h1;exact GC _
 | ⟨GB ⟨k,n,nm,a,ks,r⟩⟩,pk,i,ar,c,s,s',kd,h=>by
  have p:rgF cells ⟨GB ⟨k,n,nm,a,ks,r⟩⟩ pk i ar c s=_:=iL cells ⟨k,n,nm,a,ks⟩ r pk i ar c s;rw[p] at h;cases d:rgE cells ⟨k,n,nm,a,ks⟩ (ep pk i ar c).1 (ep pk i ar c).2 s with
  | none=>rw[d] at h;cases h
  | some z =>
   obtain⟨s2,q⟩:=z;rw[d] at h;simp only at h;cases e:rgF cells r pk (i+1) ar c s2 with
   | none=>rw[e] at h;cases h
   | some z =>
    obtain⟨g,rest⟩:=z;rw[e] at h;injection h with h
    injection h with h1 h2
    subst h1;have t:=qX cells r pk (i+1) ar c s2 g rest e;obtain⟨-,j,l,m,-,-,-,-,b⟩:=gK d;have o:=qX cells ks k 0 _ _ _ _ _ m;have h5:s2.1=j.1:=by
     simp only at b;split at b
     ·exact pX b
     ·injection b with b
      rw[b]
    simp only at o;simp only[Fs.len];omega
theorem Dn {cells:List Int}{e:Ex}{ar b:Nat}{s s':Rg}{k:Int}(h:rgE cells e ar b s=GB (s',k)):s.1+1<=s'.1:=by
 obtain⟨-,c,d,f,-,-,-,-,a⟩:=gK h;have g:=qX cells _ _ 0 _ _ _ _ _ f;have h5:s'.1=c.1:=by
  split at a
  ·exact pX a
  ·injection a with a
   rw[a]
 simp only at g;omega
theorem Fs.snoc_nv:∀ {f:Fs}{x:Ex},f.nv->x.nv->(f.snoc x).nv
 | ⟨GA⟩,x,h,k=>⟨k.1,k.2,trivial⟩
 | ⟨GB ⟨i,n,nm,a,ks,r⟩⟩,x,h,k=>⟨h.1,h.2.1,Fs.snoc_nv (f:=r) h.2.2 k⟩
theorem Row.inA {w:GE}{o:Nat->Nat}{i:Nat}{v:GJ}{n:Nat}{a:List Int}(h:Row w o i 3 1 v n (a.map (GT .i64)))(d:a.length=n):InA w v a:=by
 subst d;rcases Jw a.length with c|c
 ·obtain⟨ao,cap,rfl⟩:=h.form;exact⟨ao,cap,rfl,.inl (I1 c)⟩
 ·obtain⟨g,cap,rfl,-,-,-,e,f,-⟩:=h.pos c;refine⟨_,cap,rfl,.inr ⟨g,0,rfl,trivial,e,λj x b=>?_⟩⟩;have k:j<a.length:=by
   rcases JJ j a.length with h1|h1
   ·exact h1
   ·rw[He h1] at b;cases b
  rw[Hx,f j (by omega)];simp[b]
theorem Row.pks {w:GE}{o:Nat->Nat}{i:Nat}{v:GJ}{n:Nat}{ps:List GJ}(h:Row w o i 126 1 v n ps)(f:∀ u,u ∈ ps->∃a x,u=.iface a x):PKs w v n:=by
 rcases Jw n with b|b
 ·obtain⟨ao,cap,rfl⟩:=h.form;exact⟨ao,cap,rfl,.inl b⟩
 ·have d:=h.len;obtain⟨g,cap,rfl,-,-,-,k,l,-⟩:=h.pos b;refine⟨_,cap,rfl,.inr ⟨g,0,rfl,k,λj m=>?_⟩⟩;have c:ps[j]?=GB (ps[j]'(by omega)):=GI (by omega);obtain⟨a,u,e⟩:=f _ (Is c);refine⟨a,u,?_⟩;rw[Hx,l j (by omega),c,e]
theorem PKs.below {w w':GE}{v:GJ}{n:Nat}(h:PKs w v n)(b:GK w.heap.size w w'):PKs w' v n:=by
 obtain⟨ak,ck,rfl,h⟩:=h;refine⟨ak,ck,rfl,?_⟩;rcases h with h|⟨g,off,rfl,a,f⟩
 ·exact .inl h
 ·refine .inr ⟨g,off,rfl,GM a b.size,λj e=>?_⟩;obtain⟨c,u,d⟩:=f j e;exact⟨c,u,(b.cell (p:=⟨g,off+j,GA⟩) a).trans d⟩
theorem yn (k n:Int)(c:List Int):(eG k n c).1.length<=3+c.length:=by
 have d:∀ (P:Prop) [Decidable P] (a b:List Int × Int),a.1.length<=3+c.length->b.1.length<=3+c.length->(if P then a else b).1.length<=3+c.length:=by
  intro P _ a b f e;split
  ·exact f
  ·exact e
 unfold eG
 repeat' apply d
 all_goals (simp<;>omega)
theorem PKs.kp {rb mb:Nat}{w w':GE}{ak:Option G1}{ck n:Nat}(h:PKs w (.slice ak n ck) n)(K:Kp rb mb w w')(f:0<n->∀ g off,ak=GB ⟨g,off,GA⟩->g≠rb/\g≠mb):PKs w' (.slice ak n ck) n:=by
 obtain⟨o,m,i,h⟩:=h;injection i with h1 h2 l
 subst h1;subst l;refine⟨ak,ck,rfl,?_⟩;rcases h with h|⟨g,off,rfl,a,k⟩
 ·exact .inl h
 ·rcases Jw n with b|b
  ·exact .inl b
  ·obtain⟨g1,g2⟩:=f b g off rfl;refine .inr ⟨g,off,rfl,GM a K.size,λj e=>?_⟩;obtain⟨c,u,d⟩:=k j e;exact⟨c,u,(K.cell a g1 g2 _).trans d⟩
theorem Gl {w:GE}{b:Nat}{a0 a1 a2:GJ}{t:Hl}(h:w.heap[b]?=GB (.cells #[a0,a1,a2] t (0,0)))(v:GJ):(w.setCell ⟨b,2,GA⟩ v).heap[b]?=GB (.cells #[a0,a1,v] t (0,0)) :=
 (Blk.set (o:=λ_=>0) (i:=0) ⟨h,rfl⟩ 2 v).1
theorem Bp:(Tryz.prog.info? 126).map (λi=>(i.zero,i.size,i.bytes))=GB (GB .nilIface,1,16):=by kernel_rfl
theorem Kp.step {rb mb i:Nat}{a w w':GE}{o o':Nat->Nat}(K:Kp rb mb a w)(s:dQ (λk=>k=i) w o w' o')(h:∀ k,k<a.heap.size->o k≠i):Kp rb mb a w' :=
 ⟨s.os.trans K.os,s.tape.trans K.tape,s.output.trans K.output,Hn K.size s.size,λk b h1 h2=>(s.block k (by have:=K.size;omega) (h k b)).trans (K.block k b h1 h2)⟩
theorem Kp.toStep {rb mb:Nat}{w w':GE}{o:Nat->Nat}(K:Kp rb mb w w')(h1:o rb=1)(h2:o mb=1):dQ (λk=>k=1) w o w' (dR w o 0) :=
 ⟨K.os,K.tape,K.output,K.size,λk b=>ed b,λk b c=>K.block k b (λe=>c (by rw[e];exact h1)) (λe=>c (by rw[e];exact h2))⟩
theorem Below.toStep {w w':GE}{o:Nat->Nat}{I:Nat->Prop}(b:GK w.heap.size w w'):dQ I w o w' (dR w o 0):=⟨b.os,b.tape,b.output,b.size,λk a=>ed a,λk a _=>b.block k a⟩
theorem RD.step {w w':GE}{n0 rb mb c i:Nat}{bv:GJ}{s:Rg}{o o':Nat->Nat}(h:RD w n0 rb mb bv c s)(st:dQ (λk=>k=i) w o w' o')(h1:o rb≠i)(h2:o mb≠i)(f:∀ k,k<n0->o k≠i):RD w' n0 rb mb bv c s:=by
 refine⟨(st.block _ (GF h.blk) h1).trans h.blk,?_,h.le,h.fit⟩;obtain⟨m,b,a⟩:=h.mp;exact⟨m,b,a.mono (st.block _ a.lt h2) (λk e d=>st.block k d (f k e)) st.size⟩
theorem uh {N:Nat}(IH:rv N):rv (N+1):=by
 intro e ao cap n0 rb mb bv cells ar q s c w hN hf dH dN cp bq df cb hG cq h hn S;obtain⟨k0,n,nm,a,f⟩:=e;simp only at hN S;have br:=hn;obtain⟨A,l,dt,-⟩:=br;subst dt;have bc:=hf.len;simp only at bc;obtain⟨Z,hZ⟩:=exq (rgE cells ⟨k0,n,nm,a,f⟩ ar q s);rw[<-hZ];have HZ:Hid (Z=rgE cells ⟨k0,n,nm,a,f⟩ ar q s):=hZ;clear hZ;obtain⟨w0,ax⟩:=exq ((w.alloc (zNv k0 n nm ao f.len cap)).alloc (.cells #[.int .i64 ar,.int .i64 q] 173));have B0:GK w.heap.size w w0:=by rw[ax];exact((GN _ w).alloc (GC _) _).alloc (by simp) _
 have E0:w0.heap[w.heap.size]?=GB (zNv k0 n nm ao f.len cap):=by
  rw[ax];exact(GO _ _ _ (by simp)).trans (GH w _)
 have T0:w0.heap[w.heap.size+1]?=GB (.cells #[.int .i64 ar,.int .i64 q] 173):=by
  rw[ax]
  have:=GH (w.alloc (zNv k0 n nm ao f.len cap)) (.cells #[.int .i64 ar,.int .i64 q] 173)
  simpa using this
 have R0:=h.below B0;have dd:=GF h.blk;have dj:=h.ltm;have KK:Kp rb mb w w0:=Kp.ofBelow B0;rw[dS];go_enter Tryz.func120,Tryz.ntmps120;go_upto_region 1 with fail;rw[<-ax];obtain⟨bx,bu⟩:=exq w.heap.size;rw[<-bu] at E0 T0 ⊢;have dP:Hid (bx=w.heap.size):=bu;have ah:bx≠rb:=by omega
 have au:bx≠mb:=by omega
 have az:bx+1≠rb:=by omega
 have aS:bx+1≠mb:=by omega
 have dC:n0<=w.heap.size:=by omega
 clear bu ax dd dj h;obtain⟨r0,r1,r2,rf⟩:=lq R0.blk;have hs:=R0.le;have F1:=Gl R0.blk (.int .i64 ((s.1:Int)+1));have F:=KK.set ⟨rb,2,GA⟩ (.int .i64 ((s.1:Int)+1)) (.inr (.inl rfl));have E1:=(GP w0 ⟨rb,2,GA⟩ bx (.int .i64 ((s.1:Int)+1)) ah).trans E0;have T1:=(GP w0 ⟨rb,2,GA⟩ (bx+1) (.int .i64 ((s.1:Int)+1)) az).trans T0;have M1:∃m,m+c<=s.1/\MpN (w0.setCell ⟨rb,2,GA⟩ (.int .i64 ((s.1:Int)+1))) (Lt0 n0) mb m s.2:=by
  obtain⟨m,hm,B⟩:=R0.mp;exact⟨m,hm,B.mono (GP w0 _ _ _ (Jn bq)) (λk y hl=>GP w0 _ k _ (by have y:k<n0:=y;show k≠rb;omega)) (by simp)⟩
 have ci:=R0.fit;clear B0 E0 T0 KK R0;go_upto_region 2 with fail;generalize w0.setCell ⟨rb,2,GA⟩ (.int .i64 ((s.1:Int)+1))=w1 at *;clear r0 r1 r2 rf;obtain⟨r0,r1,r2,rf⟩:=lq F1;obtain⟨p0,p1,p2,p3,K⟩:=el E1;obtain⟨t0,t1,Q⟩:=jd T1;have t:∀ {w2:GE},Z=GA->GK w1.heap.size w1 w2->Hid (lL w n0 rb mb (.slice A cells.length l) c Z (.returned (.tuple #[.nilIface,.bool false])) w2):=by
  intro w2 hz b2;rw[hz];exact⟨⟨_,rfl,λs k h=>(by cases h)⟩,λs k h=>(by cases h),F.trans (Kp.ofBelow b2)⟩
 by_cases dh:4096<s.1+1
 ·have V:=t (by rw[HZ.out];exact jR (λhg=>hg (.inl dh))) (GN _ w1);have hI:(4096:Int)<(s.1:Int)+1:=by omega
  clear t HZ M1 E1 T1 F1 F;go_wp2;exact GG (v:=.tuple #[.nilIface,.bool false]) (by simp[results,IN,go_sem]) rfl V.out
 have hI:¬(4096:Int)<(s.1:Int)+1:=by omega
 by_cases dg:4<q
 ·have V:=t (by rw[HZ.out];exact jR (λhg=>hg (.inr (.inl dg)))) (GN _ w1);have hJ:(4:Int)<(q:Int):=by omega
  clear t HZ M1 E1 T1 F1 F;go_wp2;exact GG (v:=.tuple #[.nilIface,.bool false]) (by simp[results,IN,go_sem]) rfl V.out
 have hJ:¬(4:Int)<(q:Int):=by omega
 have ab:Wd w1:=cq.kp F (by omega) (by omega);have c1:=rP ⟨k0,n,nm,a,f⟩ ao cap w1 ab hf.nm;rw[dS] at c1;simp only at c1;go_wp2_with fail;refine c1.mono ?_;rintro z w2 ⟨rfl,b2⟩;have F2:=(b2.block _ (GF F1)).trans F1;have E2:=(b2.block _ (GF E1)).trans E1;have T2:=(b2.block _ (GF T1)).trans T1;cases aB:nmP k0 nm with
 | false =>
  have V:=t (by rw[HZ.out];exact jR (λhg=>hg (.inr (.inr (.inl aB))))) b2;clear c1 t HZ M1 E1 T1 F1 F p0 p1 p2 p3 K t0 t1 Q r0 r1 r2 rf;obtain⟨p0,p1,p2,p3,K⟩:=el E2;obtain⟨t0,t1,Q⟩:=jd T2;clear E2 T2 F2;go_wp2;exact GG (v:=.tuple #[.nilIface,.bool false]) (by simp[results,IN,go_sem]) rfl V.out
 | true =>
 have c2:=pI ⟨k0,n,nm,a,f⟩ ao cap ar q rb cells.length w2 A l _ _ F2;rw[dS] at c2;simp only at c2;clear c1 p0 p1 p2 p3 K t0 t1 Q r0 r1 r2 rf;obtain⟨p0,p1,p2,p3,K⟩:=el E2;obtain⟨t0,t1,Q⟩:=jd T2;go_wp2_with fail;refine c2.mono ?_;rintro z w3 ⟨rfl,b3⟩;have aw:GK w1.heap.size w1 w3:=b2.trans (b3.mono b2.size);have F3:=(b3.block _ (GF F2)).trans F2;have E3:=(b3.block _ (GF E2)).trans E2;have T3:=(b3.block _ (GF T2)).trans T2;clear c2 p0 p1 p2 p3 K t0 t1 Q F2 E2 T2;cases aj:nuP cells.length k0 n ar with
 | false =>
  have V:=t (by rw[HZ.out];exact jR (λhg=>hg (.inr (.inr (.inr aj))))) aw;obtain⟨p0,p1,p2,p3,K⟩:=el E3;obtain⟨t0,t1,Q⟩:=jd T3;clear t HZ M1 E1 T1 F1 F E3 T3 F3;go_wp2;exact GG (v:=.tuple #[.nilIface,.bool false]) (by simp[results,IN,go_sem]) rfl V.out
 | true =>
 have cf:gdE cells ⟨k0,n,nm,a,f⟩ ar q s:=by
  rintro (h|h|h|h)
  ·omega
  ·omega
  ·simp only at h;rw[aB] at h;cases h
  ·simp only at h;rw[aj] at h;cases h
 have cL:Hid (jU cells ⟨k0,n,nm,a,f⟩ ar q f 0 (s.1+1,s.2) []=Z):=(HZ.out.trans (Ax cf)).symm;have K3:=F.trans (Kp.ofBelow aw);have R3:RD w3 n0 rb mb (.slice A cells.length l) (c+1) (s.1+1,s.2):=by
  refine⟨F3,?_,by show s.1+1<=4096;omega,ci⟩;obtain⟨m,hm,B⟩:=M1;exact⟨m,by show m+(c+1)<=s.1+1;omega,B.mono (aw.block _ B.lt) (λk _ hl=>aw.block k hl) aw.size⟩
 have a7:Hid (nuP cells.length k0 n ar=true):=aj;clear t HZ M1 E1 T1 F1 F F3 b2 b3 aw cf aB aj ab;obtain⟨o3,aA⟩:∃o3:Nat->Nat,o3=λk=>if k=rb\/k=mb then 1 else 0:=⟨_,rfl⟩;have bJ:o3 rb=1:=by rw[aA];simp
 have bN:o3 mb=1:=by rw[aA];simp
 have bn:∀ k,k≠rb->k≠mb->o3 k=0:=λk h1 h2=>by rw[aA];simp[h1,h2]
 have bO:∀ k,o3 k<=1:=λk=>by rw[aA];simp only;split<;>omega
 have bF:Blk w3 o3 0 bx (zNv k0 n nm ao f.len cap):=⟨E3,bn _ ah au⟩;have cT:Blk w3 o3 0 (bx+1) (.cells #[.int .i64 ar,.int .i64 q] 173 (0,0)):=⟨T3,bn _ az aS⟩;have L3:Hid (∀ k,k<w.heap.size->o3 k<=1):=λk _=>bO k;clear aA bn bO E3 T3;have dD:f.len<=1000000000:=bc;obtain⟨ip,dn,bR,bQ,bP⟩:=ek Bp;obtain⟨ii,dp,bU,bT,bS⟩:=ek wQ;obtain⟨p0,p1,p2,p3,K⟩:=el bF.1;go_wp2;go_loopw [8,9,47] (λv8 v9 bg wr=>∃(d r:Fs) (o:Nat->Nat) (ps:List GJ) (E:List Int) (T:Rg),Hid (f=d.app r)/\bg=.int .i64 (d.len:Nat)/\Row wr o 2 126 1 v8 d.len ps/\Hid (∀ u,u ∈ ps->∃ty x,u=.iface ty x)/\Row wr o 3 3 1 v9 d.len (E.map (GT .i64))/\E.length=d.len/\d.len<=T.1/\Hid d.nv/\RD wr n0 rb mb (.slice A cells.length l) (c+1) T/\o rb=1/\o mb=1/\Blk wr o 0 bx (zNv k0 n nm ao f.len cap)/\Blk wr o 0 (bx+1) (.cells #[.int .i64 ar,.int .i64 q] 173 (0,0))/\Hid (∀ k,k<w.heap.size->o k<=1)/\Kp rb mb w wr/\Hid (jU cells ⟨k0,n,nm,a,f⟩ ar q r d.len T E=Z)) (λ_ _ bg _=>f.len-(Hh bg).toNat)
 case atStart=>exact⟨.nil,f,o3,[],[],_,rfl,by show _=GT .i64 ((0:Nat):Int);rfl,Row.nil _ _ _ _ _,λu hu=>(by cases hu),Row.nil _ _ _ _ _,rfl,Jh _,trivial,R3,bJ,bN,bF,cT,L3,K3,cL.out⟩
 case round =>
  clear bF cT L3 R3 K3 cL bJ bN p0 p1 p2 p3 K;obtain⟨d,r,o,ps,E,T,y,rfl,R8,aT,R9,aV,dL,b0,U,aN,aO,aM,aK,L1,F,HA⟩:=hrel;have aU:f.len=d.len+r.len:=by rw[y.out,Fs.len_app]
  obtain⟨p0,p1,p2,p3,K⟩:=el aM.1;obtain⟨t0,t1,Q⟩:=jd aK.1;cases r using Fs.on with
  | nil =>
   have dk:¬(d.len:Int)<(f.len:Int):=by simp only[Fs.len] at aU;omega
   have ai:Hid (Cu cells ⟨k0,n,nm,a,f⟩ ar T E=Z):=by show _=Z;rw[<-HA.out];exact yK.symm
   clear HA;have bs:Hid (f=d):=by show f=d;rw[y.out];exact lZ d
   have dq:Hid (d.len=f.len):=by show d.len=f.len;rw[bs.out]
   have cM:Hid (E.length=d.len):=aV;have dI:=U.le;have I9:=R9.inA aV;have P8:=R8.pks aT.out;obtain⟨a9,c9,rfl⟩:=R9.form;obtain⟨a8,c8,rfl⟩:=R8.form;have dy:Hid (0<d.len->∀ g of,a8=GB ⟨g,of,GA⟩->g≠rb/\g≠mb):=by
    intro hd g of ha;obtain⟨g',dF,he,ho,-⟩:=R8.pos hd;injection he with he
    rw[ha] at he;injection he with he
    injection he with dr dK
    subst dr;exact⟨λh=>(by rw[h,aN] at ho;cases ho),λh=>(by rw[h,aO] at ho;cases ho)⟩
   have E1:=aM.1;have T1:=aK.1;have S1:SlN wr (Lt0 n0) f ao:=S.mono (λi B hl=>F.block i hl (by have B:i<n0:=B;omega) (by have B:i<n0:=B;omega)) F.size (λ_ h _=>h);have N1:Inw wr (Lt0 n0) (.slice A cells.length l) cells:=hn.mono (λi B hl=>F.block i hl (by have B:i<n0:=B;omega) (by have B:i<n0:=B;omega)) F.size (λ_ h _=>h);have c1:=Bj k0 n nm a f ao cap wr _ E I9 (by omega);rw[dS] at c1;simp only at c1;clear R8 R9 aM aK aN aO L1 aT aU aV;obtain⟨pp,bp⟩:=exq (eG k0 n E);rw[<-bp] at c1;have HP:Hid (pp=eG k0 n E):=bp;clear bp;obtain⟨xs,is⟩:=pp;go_wp2_with fail;refine c1.mono ?_;rintro z w2 ⟨lv,rfl,L2,b2⟩;simp only at L2;obtain⟨al,cl,cd,cc⟩:=L2;have L2:Inw w2 (Nw wr.heap.size) lv xs:=⟨al,cl,cd,cc⟩;subst cd;clear cc;have bf:rb<w2.heap.size:=GM (GF U.blk) b2.size;have be:mb<w2.heap.size:=GM U.ltm b2.size;have b3:GK wr.heap.size wr (w2.alloc (.cells #[.slice al xs.length cl,.int .i64 is] 211)):=b2.alloc b2.size _;have cs:GK w2.heap.size w2 (w2.alloc (.cells #[.slice al xs.length cl,.int .i64 is] 211)):=(GN _ w2).alloc (GC _) _;have X3:(w2.alloc (.cells #[.slice al xs.length cl,.int .i64 is] 211)).heap[w2.heap.size]?=GB (.cells #[.slice al xs.length cl,.int .i64 is] 211 (0,0)):=GH w2 _;have L3:=L2.below cs;have a2:=I9.below b3;have a1:=P8.below b3;have E3:=(b3.block _ (GF E1)).trans E1;have T3:=(b3.block _ (GF T1)).trans T1;have a0:=U.below b3;have S3:=S1.belowP b3;have N3:=N1.below b3;have K3:=F.trans (Kp.ofBelow b3);clear c1 p0 p1 p2 p3 K t0 t1 Q E1 T1 U S1 N1 F I9 P8 L2 b2 b3 cs;go_upto_region 15 with fail;generalize w2.alloc (.cells #[.slice al xs.length cl,.int .i64 is] 211)=w3 at *;have cm:w2.heap.size≠rb:=by have:=bf;omega
   have cj:w2.heap.size≠mb:=by have:=be;omega
   clear bf be;generalize w2.heap.size=fb at *;obtain⟨p0,p1,p2,p3,K⟩:=el E3;obtain⟨t0,t1,Q⟩:=jd T3;obtain⟨y0,y1,yf⟩:=jd X3;have P:Hid (Z=if is=0\/xs≠E then GA else match (if k0=26 then fO cells n f ar T else GB T) with|none=>GA|some s2=>GB (s2,is)):=by
    show Z=_;rw[<-ai.out];unfold Cu;simp only;rw[<-HP.out]
   clear ai;have t:∀ {w4:GE},Z=GA->Kp rb mb w3 w4->Hid (lL w n0 rb mb (.slice A cells.length l) c Z (.returned (.tuple #[.nilIface,.bool false])) w4):=by
    intro w4 hz k4;rw[hz];exact⟨⟨_,rfl,λs k h=>(by cases h)⟩,λs k h=>(by cases h),K3.trans k4⟩
   have L:Hid (xs.length<=1000000000):=by
    show xs.length<=1000000000;have h1:=yn k0 n E;rw[<-HP.out] at h1;have h2:=cM.out;simp only at h1;omega
   by_cases ag:is=0
   ·have du:(is==0)=true:=by simpa using ag
    have V:=t (by rw[P.out,if_pos (.inl ag)]) (Kp.refl _ _ w3);clear t P HP a0 S3 N3 K3 a2 a1 L3 E3 T3 X3 ag;go_wp2;exact GG (v:=.tuple #[.nilIface,.bool false]) (by simp[results,IN,go_sem]) rfl V.out
   have du:(is==0)=false:=by simpa using ag
   have c2:=AS w3 _ _ xs E (L3.mono (λ_ _ _=>rfl) (GC _) (λ_ _ _=>trivial)) a2 (L.out);obtain⟨sm,bo⟩:=exq (decide (xs=E));rw[<-bo] at c2;have a3:Hid (sm=decide (xs=E)):=bo;clear bo;go_wp2_with fail;refine c2.mono ?_;rintro z w4 ⟨rfl,b4⟩;have E4:=(b4.block _ (GF E3)).trans E3;have T4:=(b4.block _ (GF T3)).trans T3;have X4:=(b4.block _ (GF X3)).trans X3;have M:=a0.below b4;have S4:=S3.belowP b4;have N4:=N3.below b4;have aH:=a1.below b4;have H:=K3.trans (Kp.ofBelow b4);cases sm with
   | false =>
    have ap:xs≠E:=of_decide_eq_false a3.out.symm;have V:=t (by rw[P.out,if_pos (.inr ap)]) (Kp.ofBelow b4);clear c2 t P HP a0 S3 N3 K3 a2 a1 L3 E3 T3 X3 ag ap p0 p1 p2 p3 K t0 t1 Q y0 y1 yf E4 T4 X4 M S4 N4 aH H b4 a3;go_wp2;exact GG (v:=.tuple #[.nilIface,.bool false]) (by simp[results,IN,go_sem]) rfl V.out
   | true =>
   have ap:xs=E:=of_decide_eq_true a3.out.symm;have W:Hid (Z=match (if k0=26 then fO cells n f ar T else GB T) with|none=>GA|some s2=>GB (s2,is)):=by show Z=_;rw[P.out,if_neg (by rintro (h|h);exact ag h;exact h ap)]
   have af:Hid ((k0=17\/k0=18\/k0=21->d.len=2)/\(k0=19->d.len=3)/\(k0=24\/k0=26->d.len=1)):=by
    have hx:d.len=(eG k0 n E).1.length:=by rw[<-HP.out];show d.len=xs.length;rw[ap,cM.out]
    refine⟨?_,?_,?_⟩
    ·rintro (rfl|rfl|rfl)
     ·rw[hx];rfl
     ·rw[hx];rfl
     ·rw[hx,ph];unfold qfP;split
      ·rfl
      ·split<;>rfl
    ·rintro rfl;rw[hx];rfl
    ·rintro (rfl|rfl)
     ·rw[hx];rfl
     ·rw[hx];rfl
   have ac:∀ w5,PKs w5 (.slice a8 d.len c8) d.len->GR GD 186 #[.agg #[.int .i64 k0,.int .i64 n,stv nm,.slice ao f.len cap],.agg #[.int .i64 is],.slice a8 d.len c8,.int .i64 ar] w5 λx w'=>(∃v,x=.returned v/\kq v is)/\GK w5.heap.size w5 w':=λw5 B=>Fj k0 n nm f ao cap is _ d.len ar w5 B af.out.1 af.out.2.1 af.out.2.2;clear c2 t P HP a0 S3 N3 K3 a2 a1 L3 E3 T3 X3 ag ap p0 p1 p2 p3 K t0 t1 Q y0 y1 yf b4 a3;obtain⟨p0,p1,p2,p3,K⟩:=el E4;obtain⟨t0,t1,Q⟩:=jd T4;obtain⟨y0,y1,yf⟩:=jd X4;by_cases aW:k0=26
   ·subst aW;have bt:=af.out.2.2 (.inr rfl);obtain⟨x,hx⟩:=ub (dq.out.symm.trans bt);have b1:=a7.out;have br:0<=n/\n<(cells.length:Int):=by simp[nuP] at b1;omega
    obtain⟨i,rfl⟩:∃i:Nat,n=(i:Nat):=⟨n.toNat,by omega⟩;have a4:x.nv:=by
     have:=b0.out
     rw[<-bs.out,hx] at this;exact⟨this.1,this.2.1⟩
    have cg:fs x:=fs.kid (e:=⟨26,(i:Nat),nm,a,f⟩) (d:=.nil) hf hx;have cu:SlN w4 (Lt0 n0) (Fs.ex x .nil) ao:=by rw[<-hx];exact S4
    have c3:=BM 26 i nm x ao cap n0 rb mb _ cells ar q T w4 (by omega) cp cg a4 (by omega) (by omega) bq cb c M N4 cu;have ce:f.len=1:=by rw[hx];rfl
    have am:Hid (Z=match fO cells (i:Nat) (Fs.ex x .nil) ar T with|none=>GA|some s2=>GB (s2,is)):=by show Z=_;rw[W.out,if_pos rfl,hx]
    rw[<-ce] at c3;generalize fO cells (i:Nat) (Fs.ex x .nil) ar T=R at *;have dO:Hid (d.len=1):=bt;clear W S4 N4 cu a4 cg b1 br ce hx bt a7 bs;go_wp2_with fail;refine c3.mono ?_;rintro z w5 ⟨rfl,bw,K5⟩;have ad:=H.trans K5;have bB:=aH.kp K5 dy.out;have E5:=(K5.block _ (GF E4) ah au).trans E4;have T5:=(K5.block _ (GF T4) az aS).trans T4;have X5:=(K5.block _ (GF X4) cm cj).trans X4;clear c3 H K5 aH E4 T4 X4 M p0 p1 p2 p3 K t0 t1 Q y0 y1 yf;obtain⟨p0,p1,p2,p3,K⟩:=el E5;obtain⟨t0,t1,Q⟩:=jd T5;obtain⟨y0,y1,yf⟩:=jd X5;cases R with
    | none =>
     have V:Hid (lL w n0 rb mb (.slice A cells.length l) c Z (.returned (.tuple #[.nilIface,.bool false])) w5):=by
      have hz:Z=GA:=am.out;rw[hz];exact⟨⟨_,rfl,λs k h=>(by cases h)⟩,λs k h=>(by cases h),ad⟩
     clear am ac bw ad bB E5 T5 X5 af;simp only[Jv];go_wp2;exact GG (v:=.tuple #[.nilIface,.bool false]) (by simp[results,IN,go_sem]) rfl V.out
    | some s2 =>
     have aF:=bw s2 rfl;have G:Hid (Z=GB (s2,is)):=am.out;have c4:=ac w5 bB;clear am ac bw af;simp only[Ju];go_wp2_with fail;refine c4.mono ?_;rintro z w6 ⟨⟨v,rfl,hv⟩,b6⟩;have V:Hid (lL w n0 rb mb (.slice A cells.length l) c Z (.returned (.tuple #[v,.bool true])) w6):=by
      rw[G.out];refine⟨⟨v,rfl,λs k h=>?_⟩,λs k h=>?_,ad.trans (Kp.ofBelow b6)⟩
      ·injection h with h
       injection h with h1 h2
       rw[<-h2];exact hv
      ·injection h with h
       injection h with h1 h2
       rw[<-h1];exact aF.below b6
     clear c4 G hv b6 aF ad bB E5 T5 X5 p0 p1 p2 p3 K t0 t1 Q y0 y1 yf;go_wp2;exact GG (v:=.tuple #[v,.bool true]) (by simp[results,IN,go_sem]) rfl V.out
   ·have dE:(k0==26)=false:=by simpa using aW
    have G:Hid (Z=GB (T,is)):=by show Z=_;rw[W.out,if_neg aW]
    have c3:=ac w4 aH;clear W ac aW af S4 N4;go_wp2_with fail;refine c3.mono ?_;rintro z w5 ⟨⟨v,rfl,hv⟩,b5⟩;have V:Hid (lL w n0 rb mb (.slice A cells.length l) c Z (.returned (.tuple #[v,.bool true])) w5):=by
     rw[G.out];refine⟨⟨v,rfl,λs k h=>?_⟩,λs k h=>?_,H.trans (Kp.ofBelow b5)⟩
     ·injection h with h
      injection h with h1 h2
      rw[<-h2];exact hv
     ·injection h with h
      injection h with h1 h2
      rw[<-h1];exact(M.below b5).less
    clear c3 G hv b5 M H aH E4 T4 X4 p0 p1 p2 p3 K t0 t1 Q y0 y1 yf;go_wp2;exact GG (v:=.tuple #[v,.bool true]) (by simp[results,IN,go_sem]) rfl V.out
  | cons D kn C X j kr =>
   have dk:(d.len:Int)<(f.len:Int):=by simp only[Fs.len] at aU;omega
   have dJ:d.len<f.len:=by omega
   have db:f.size=d.size+(j.size+kr.size+1):=by rw[y.out,Fs.size_app];rfl
   have ch:fs ⟨D,kn,C,X,j⟩:=hf.kid (d:=d) (r:=kr) y.out;have S1:SlN wr (Lt0 n0) f ao:=S.mono (λi B hl=>F.block i hl (by have B:i<n0:=B;omega) (by have B:i<n0:=B;omega)) F.size (λ_ h _=>h);have N1:Inw wr (Lt0 n0) (.slice A cells.length l) cells:=hn.mono (λi B hl=>F.block i hl (by have B:i<n0:=B;omega) (by have B:i<n0:=B;omega)) F.size (λ_ h _=>h);have ab:Wd wr:=cq.kp F (by omega) (by omega);obtain⟨b,off,ak,ck,dv,dG,-,x0,x1,x2,x3,SK⟩:=SlN.kidQ (by rw[<-y.out];exact S1);subst dv;have dm:Hid (f=(d.snoc ⟨D,kn,C,X,j⟩).app kr):=by show f=_;rw[y.out];unfold Fs.snoc;rw[Fs.app_assoc];rfl
   have dl:(d.len:Int)+1=((d.snoc ⟨D,kn,C,X,j⟩).len:Nat):=by rw[Fs.len_snoc];rfl
   have ai:Hid ((match rgE cells ⟨D,kn,C,X,j⟩ (ep k0 d.len ar q).1 (ep k0 d.len ar q).2 T with|none=>GA|some (s2,k)=>jU cells ⟨k0,n,nm,a,f⟩ ar q kr (d.len+1) s2 (E++[k]))=Z):=by show _=Z;rw[<-HA.out];exact(xM (e:=⟨k0,n,nm,a,f⟩) (x:=⟨D,kn,C,X,j⟩)).symm
   have ay:(ep k0 d.len ar q).2<=5/\(ep k0 d.len ar q).1<=(ep k0 d.len ar q).2:=by
    unfold ep;split
    ·simp only;split<;>omega
    ·simp only;omega
   -- the kid's box
   have s2:=et (λ_=>False) wr o (zNv D kn C ak j.len ck);have b2:GK wr.heap.size wr (wr.alloc (zNv D kn C ak j.len ck)):=(GN _ wr).alloc (GC _) _;have X2:(wr.alloc (zNv D kn C ak j.len ck)).heap[wr.heap.size]?=GB (zNv D kn C ak j.len ck):=GH wr _;have aG:=U.below b2;have bA:=R8.step s2 id;have bz:=R9.step s2 id;have aL:=aM.step s2 id;have aJ:=aK.step s2 id;have dc:rb<wr.heap.size:=GF U.blk;have di:mb<wr.heap.size:=U.ltm;have bj:dR wr o 0 rb=1:=(ed dc).trans aN;have bm:dR wr o 0 mb=1:=(ed di).trans aO;have L2:Hid (∀ k,k<w.heap.size->dR wr o 0 k<=1):=λk y=>by rw[ed (by have:=F.size;omega)];exact L1.out k y
   have K2:=F.trans (Kp.ofBelow b2);have N2:=N1.below b2;have ct:=SK.belowP b2;have bd:=ab.below b2;obtain⟨O,bV⟩:=exq wr.heap.size;have aQ:O≠rb:=by omega
   have aP:O≠mb:=by omega
   clear HA R8 R9 aM aK aN aO L1 F U S1 N1 SK ab s2 y p0 p1 p2 p3 K t0 t1 Q;go_upto_region 9 with fail;generalize dR wr o 0=o2 at *;generalize wr.alloc (zNv D kn C ak j.len ck)=w2 at *;rw[<-bV] at X2 ⊢;clear bV b2 x0 x1 x2 x3;obtain⟨p0,p1,p2,p3,K⟩:=el aL.1;obtain⟨t0,t1,Q⟩:=jd aJ.1;obtain⟨z0,z1,z2,z3,zf⟩:=el X2;have aa:=aL.lt;have aR:=aJ.lt;have L:=GF X2;have av:GK w2.heap.size w2 w2.drew:=⟨rfl,rfl,rfl,GC _,λ_ _=>rfl⟩;have c9:=CU ⟨k0,n,nm,a,f⟩ (GB ⟨b,off,GA⟩) cap ar q d.len w2.drew (by omega) (by omega) (by omega);rw[dS] at c9;simp only at c9;have de:=λk2 (h:∃s2,rgE cells ⟨D,kn,C,X,j⟩ (ep k0 d.len ar q).1 (ep k0 d.len ar q).2 T=GB (s2,k2))=>h;clear de;have an:Hid (∀ s2 k,rgE cells ⟨D,kn,C,X,j⟩ (ep k0 d.len ar q).1 (ep k0 d.len ar q).2 T=GB (s2,k)->T.1+1<=s2.1/\(d.snoc ⟨D,kn,C,X,j⟩).nv):=λs2 k h=>⟨Dn h,Fs.snoc_nv b0.out (AF h)⟩;have aX:=λ(w3:GE) (b3:GK w2.drew.heap.size w2.drew w3)=>IH ⟨D,kn,C,X,j⟩ ak ck n0 rb mb (.slice A cells.length l) cells (ep k0 d.len ar q).1 (ep k0 d.len ar q).2 T (c+1) w3 (by show j.size<N;omega) ch ay.1 ay.2 cp bq df cb hG ((bd.below av).below b3) ((aG.below av).below b3) ((N2.below av).below b3) ((ct.belowP av).belowP b3);simp only[dS] at aX;generalize rgE cells ⟨D,kn,C,X,j⟩ (ep k0 d.len ar q).1 (ep k0 d.len ar q).2 T=rr at *;generalize (ep k0 d.len ar q).1=sA at *;generalize (ep k0 d.len ar q).2=sB at *;clear bd N2 ct db ch ay aU;go_upto_region 9 with fail;go_cut [12,13] (λc0 cZ wx=>∃v,c0=v/\cZ=.bool rr.isSome/\(∀ s k,rr=GB (s,k)->kq v k)/\(∀ s k,rr=GB (s,k)->RD wx n0 rb mb (.slice A cells.length l) (c+1) s)/\Kp rb mb w2 wx)
   case first =>
    go_wp2_with fail;go_region_held3 (λwx=>wx.cell? ⟨bx,0,GA⟩=GB (.int .i64 k0)/\wx.cell? ⟨bx,1,GA⟩=GB (.int .i64 n)/\wx.cell? ⟨bx,2,GA⟩=GB (stv nm)/\wx.cell? ⟨bx,3,GA⟩=GB (.slice (GB ⟨b,off,GA⟩) f.len cap)/\wx.cell? ⟨bx+1,0,GA⟩=GB (.int .i64 ar)/\wx.cell? ⟨bx+1,1,GA⟩=GB (.int .i64 q)/\wx.cell? ⟨O,0,GA⟩=GB (.int .i64 D)/\wx.cell? ⟨O,1,GA⟩=GB (.int .i64 kn)/\wx.cell? ⟨O,2,GA⟩=GB (stv C)/\wx.cell? ⟨O,3,GA⟩=GB (.slice ak j.len ck))
     (first|exact KA|go_keep)
     (first
      | (go_at_call 182;refine c9.mono ?_;rintro z w3 ⟨rfl,J⟩;have KA:w3.cell? ⟨bx,0,GA⟩=GB (.int .i64 k0)/\w3.cell? ⟨bx,1,GA⟩=GB (.int .i64 n)/\w3.cell? ⟨bx,2,GA⟩=GB (stv nm)/\w3.cell? ⟨bx,3,GA⟩=GB (.slice (GB ⟨b,off,GA⟩) f.len cap)/\w3.cell? ⟨bx+1,0,GA⟩=GB (.int .i64 ar)/\w3.cell? ⟨bx+1,1,GA⟩=GB (.int .i64 q)/\w3.cell? ⟨O,0,GA⟩=GB (.int .i64 D)/\w3.cell? ⟨O,1,GA⟩=GB (.int .i64 kn)/\w3.cell? ⟨O,2,GA⟩=GB (stv C)/\w3.cell? ⟨O,3,GA⟩=GB (.slice ak j.len ck):=⟨(J.cell (p:=⟨bx,0,GA⟩) aa).trans p0,(J.cell (p:=⟨bx,1,GA⟩) aa).trans p1,(J.cell (p:=⟨bx,2,GA⟩) aa).trans p2,(J.cell (p:=⟨bx,3,GA⟩) aa).trans p3,(J.cell (p:=⟨bx+1,0,GA⟩) aR).trans t0,(J.cell (p:=⟨bx+1,1,GA⟩) aR).trans t1,(J.cell (p:=⟨O,0,GA⟩) L).trans z0,(J.cell (p:=⟨O,1,GA⟩) L).trans z1,(J.cell (p:=⟨O,2,GA⟩) L).trans z2,(J.cell (p:=⟨O,3,GA⟩) L).trans z3⟩)
      | (go_at_call 120;refine(aX _ J).mono ?_;rintro z w4 ⟨⟨v,rfl,hv⟩,aE,H⟩;have cK:w4.cell? ⟨bx,0,GA⟩=GB (.int .i64 k0)/\w4.cell? ⟨bx,1,GA⟩=GB (.int .i64 n)/\w4.cell? ⟨bx,2,GA⟩=GB (stv nm)/\w4.cell? ⟨bx,3,GA⟩=GB (.slice (GB ⟨b,off,GA⟩) f.len cap)/\w4.cell? ⟨bx+1,0,GA⟩=GB (.int .i64 ar)/\w4.cell? ⟨bx+1,1,GA⟩=GB (.int .i64 q)/\w4.cell? ⟨O,0,GA⟩=GB (.int .i64 D)/\w4.cell? ⟨O,1,GA⟩=GB (.int .i64 kn)/\w4.cell? ⟨O,2,GA⟩=GB (stv C)/\w4.cell? ⟨O,3,GA⟩=GB (.slice ak j.len ck):=⟨(H.cell (GM aa J.size) ah au _).trans KA.1,(H.cell (GM aa J.size) ah au _).trans KA.2.1,(H.cell (GM aa J.size) ah au _).trans KA.2.2.1,(H.cell (GM aa J.size) ah au _).trans KA.2.2.2.1,(H.cell (GM aR J.size) az aS _).trans KA.2.2.2.2.1,(H.cell (GM aR J.size) az aS _).trans KA.2.2.2.2.2.1,(H.cell (GM L J.size) aQ aP _).trans KA.2.2.2.2.2.2.1,(H.cell (GM L J.size) aQ aP _).trans KA.2.2.2.2.2.2.2.1,(H.cell (GM L J.size) aQ aP _).trans KA.2.2.2.2.2.2.2.2.1,(H.cell (GM L J.size) aQ aP _).trans KA.2.2.2.2.2.2.2.2.2⟩;have KA:=cK))
    have HM:Hid (Kp rb mb w2 w4):=(Kp.ofBelow (av.trans J)).trans H;clear KA cK c9 aX;go_wp2;go_meet;exact⟨v,rfl,rfl,hv,aE,HM.out⟩
   case rest =>
    obtain⟨v,rfl,rfl,hv,aE,H⟩:=hcut;have aI:=K2.trans H;clear c9 aX p0 p1 p2 p3 K t0 t1 Q z0 z1 z2 z3 zf;cases ae:rr with
    | none =>
     have V:Hid (lL w n0 rb mb (.slice A cells.length l) c Z (.returned (.tuple #[.nilIface,.bool false])) wc):=by
      have hz:Z=GA:=by rw[<-ai.out,ae]
      rw[hz];exact⟨⟨_,rfl,λs k h=>(by cases h)⟩,λs k h=>(by cases h),aI⟩
     clear ai hv aE H aI an bA bz aL aJ L2 aG X2;simp only[Jv];go_wp2;exact GG (v:=.tuple #[.nilIface,.bool false]) (by simp[results,IN,go_sem]) rfl V.out
    | some zz =>
     obtain⟨s2,k⟩:=zz;have dM:=(an.out s2 k ae).1;have bZ:Hid (d.snoc ⟨D,kn,C,X,j⟩).nv:=(an.out s2 k ae).2;obtain⟨ty,vx,rfl,he⟩:=hv s2 k ae;have M:=aE s2 k ae;have cN:Hid (jU cells ⟨k0,n,nm,a,f⟩ ar q kr (d.len+1) s2 (E++[k])=Z):=by show _=Z;rw[<-ai.out,ae]
     have s4:=H.toStep bj bm;have bX:rb<w2.heap.size:=GF aG.blk;have ca:mb<w2.heap.size:=aG.ltm;have cJ:=bA.step s4 (by decide);have cC:=bz.step s4 (by decide);have cY:=aL.step s4 (by decide);have cS:=aJ.step s4 (by decide);have bI:dR w2 o2 0 rb=1:=(ed bX).trans bj;have bM:dR w2 o2 0 mb=1:=(ed ca).trans bm;have L4:Hid (∀ k,k<w.heap.size->dR w2 o2 0 k<=1):=λk y=>by rw[ed (by have:=K2.size;omega)];exact L2.out k y
     simp only[Ju];clear ai hv aE H an bA bz aL aJ L2 aG X2 ae s4 K2 bj bm av;generalize dR w2 o2 0=o4 at *
     -- the part goes behind the others
     have s5:=et (λ_=>False) wc o4 (.cells #[.iface ty vx] 126);have b5:GK wc.heap.size wc (wc.alloc (.cells #[.iface ty vx] 126)):=(GN _ wc).alloc (GC _) _;have cI:=cJ.step s5 id;have cB:=cC.step s5 id;have cX:=cY.step s5 id;have cR:=cS.step s5 id;have aF:=M.below b5;have a5:rb<wc.heap.size:=GF M.blk;have ba:mb<wc.heap.size:=M.ltm;have bi:dR wc o4 0 rb=1:=(ed a5).trans bI;have bl:dR wc o4 0 mb=1:=(ed ba).trans bM;have L5:Hid (∀ k,k<w.heap.size->dR wc o4 0 k<=1):=λk y=>by rw[ed (by have:=aI.size;omega)];exact L4.out k y
     have ad:=aI.trans (Kp.ofBelow b5);have Y:∀ u ∈ [Value.iface ty vx],u.oneCell'=true:=by intro u hu;simp at hu;subst hu;rfl
     have q1:d.len+1<=GY:=by unfold GY;omega
     have q2:(d.len+1)*16<=140737488355328:=by omega
     clear cJ cC cY cS M bI bM L4 aI s5 b5;go_wp2_with (first|(at_builtin;refine eb rfl (.tmp 64) (.tmp 66) 208 rfl 126 ip .nilIface 1 16 Tryz.underlying208 dn bR bQ bP rfl (by decide) (dR wc o4 0) 2 _ d.len ps rfl cI ⟨wc.heap.size,0,GA⟩ 1 1 [.iface ty vx] rfl rfl (fG wc _ _) Y (by decide) q1 q2 ?_)|go_in);intro g8 c8 w6 o6 cH s6;have da:(wc.alloc (.cells #[.iface ty vx] 126)).heap.size=wc.heap.size+1:=by simp
     have aD:∀ k,k<w.heap.size->dR wc o4 0 k≠2:=λk y=>by have:=L5.out k y;omega
     have cA:=cB.step s6 (by decide);have cW:=cX.step s6 (by decide);have cQ:=cR.step s6 (by decide);have aZ:=aF.step s6 (by rw[bi];decide) (by rw[bl];decide) (λk y=>aD k (by omega));have bH:o6 rb=1:=(s6.lab rb (by omega)).trans bi;have bL:o6 mb=1:=(s6.lab mb (by omega)).trans bl;have L6:Hid (∀ k,k<w.heap.size->o6 k<=1):=λk y=>by rw[s6.lab k (by have:=ad.size;omega)];exact L5.out k y
     have bE:=ad.step s6 aD;clear cI cB cX cR aF bi bl L5 ad s6 aD da Y q2 a5 ba;generalize dR wc o4 0=o5 at *;have cr:=λw=>tv k w;go_wp2_with fail;refine(cr _).mono ?_;rintro z w7 ⟨rfl,b7⟩;have s7:=Below.toStep (I:=λ_=>False) (o:=o6) b7;have cG:=cH.step s7 id;have cz:=cA.step s7 id;have cV:=cW.step s7 id;have cP:=cQ.step s7 id;have aY:=aZ.below b7;have a6:rb<w6.heap.size:=GF aZ.blk;have bb:mb<w6.heap.size:=aZ.ltm;have bG:dR w6 o6 0 rb=1:=(ed a6).trans bH;have bK:dR w6 o6 0 mb=1:=(ed bb).trans bL;have L7:Hid (∀ k,k<w.heap.size->dR w6 o6 0 k<=1):=λk y=>by rw[ed (by have:=bE.size;omega)];exact L6.out k y
     have bD:=bE.trans (Kp.ofBelow b7);clear cH cA cW cQ aZ bH bL L6 bE s7 b7 cr he a6 bb;generalize dR w6 o6 0=o7 at *;have s8:=et (λ_=>False) w7 o7 (.cells #[.int .i64 k] 3);have b8:GK w7.heap.size w7 (w7.alloc (.cells #[.int .i64 k] 3)):=(GN _ w7).alloc (GC _) _;have cF:=cG.step s8 id;have cy:=cz.step s8 id;have cU:=cV.step s8 id;have cO:=cP.step s8 id;have cv:=aY.below b8;have bW:rb<w7.heap.size:=GF aY.blk;have b9:mb<w7.heap.size:=aY.ltm;have bh:dR w7 o7 0 rb=1:=(ed bW).trans bG;have bk:dR w7 o7 0 mb=1:=(ed b9).trans bK;have L8:Hid (∀ k,k<w.heap.size->dR w7 o7 0 k<=1):=λk y=>by rw[ed (by have:=bD.size;omega)];exact L7.out k y
     have bC:=bD.trans (Kp.ofBelow b8);have Y:∀ u ∈ [GT .i64 k],u.oneCell'=true:=by intro u hu;simp at hu;subst hu;rfl
     have q2:(d.len+1)*8<=140737488355328:=by omega
     have c7:(w7.alloc (.cells #[.int .i64 k] 3)).heap.size=w7.heap.size+1:=by simp
     clear cG cz cV cP aY bG bK L7 bD s8 b8;go_wp2_with (first|(at_builtin;refine eb rfl (.tmp 68) (.tmp 71) 35 rfl 3 ii (.int .i64 0) 1 8 Hu dp bU bT bS rfl (by decide) (dR w7 o7 0) 3 _ d.len (E.map (GT .i64)) rfl cy ⟨w7.heap.size,0,GA⟩ 1 1 [.int .i64 k] rfl rfl (fG w7 _ _) Y (by decide) q1 q2 ?_)|go_in);intro g9 c9 w9 o9 cx s9;have aC:∀ k,k<w.heap.size->dR w7 o7 0 k≠3:=λk y=>by have:=L8.out k y;omega
     have cE:=cF.step s9 (by decide);have dB:=cU.step s9 (by decide);have dA:=cO.step s9 (by decide);have dw:=cv.step s9 (by rw[bh];decide) (by rw[bk];decide) (λk y=>aC k (by omega));have c5:o9 rb=1:=(s9.lab rb (by omega)).trans bh;have c6:o9 mb=1:=(s9.lab mb (by omega)).trans bk;have L9:Hid (∀ k,k<w.heap.size->o9 k<=1):=λk y=>by rw[s9.lab k (by have:=bC.size;omega)];exact L8.out k y
     have dx:=bC.step s9 aC;have bY:Hid (∀ u,u ∈ ps++[Value.iface ty vx]->∃ty x,u=.iface ty x):=by
      intro u hu;rcases List.mem_append.1 hu with h|h
      ·exact aT.out u h
      ·simp at h;exact⟨ty,vx,h⟩
     have aq:(d.snoc ⟨D,kn,C,X,j⟩).len=d.len+1:=Fs.len_snoc _ _;have cw:Row w9 o9 3 3 1 (.slice (GB ⟨g9,0,GA⟩) (d.len+1) c9) (d.snoc ⟨D,kn,C,X,j⟩).len ((E++[k]).map (GT .i64)):=by rw[aq,JU];exact cx
     have cD:Row w9 o9 2 126 1 (.slice (GB ⟨g8,0,GA⟩) (d.len+1) c8) (d.snoc ⟨D,kn,C,X,j⟩).len (ps++[.iface ty vx]):=by rw[aq];exact cE
     have co:(E++[k]).length=(d.snoc ⟨D,kn,C,X,j⟩).len:=by rw[aq];simp[aV]
     have cn:(d.snoc ⟨D,kn,C,X,j⟩).len<=s2.1:=by rw[aq];omega
     have dz:Hid (jU cells ⟨k0,n,nm,a,f⟩ ar q kr (d.snoc ⟨D,kn,C,X,j⟩).len s2 (E++[k])=Z):=by rw[aq];exact cN
     clear cF cy cU cO cv bh bk L8 bC s9 aC c7 Y cx cE cN aT aq;go_wp2;go_roundw
     case rel=>exact⟨_,kr,o9,_,_,s2,dm,by rw[<-dl],cD,bY,cw,co,cn,bZ,dw,c5,c6,dB,dA,L9,dx,dz⟩
     case measure=>simp[Hh];omega
theorem ss:∀ N,rv N -- 120
 | 0=>λe ao cap n0 rb mb bv cells ar a s c w h=>absurd h (Hr _)
 | N+1=>uh (ss N)
theorem nd {cells:List Int}{e:Ex}(h:fa cells e≠0):cells.length<=256/\(∀ c,c ∈ cells->0<=c/\c<=4)/\∃s,rgE cells e 0 0 (0,λ_=>GA)=GB (s,fa cells e)/\fa cells e≠4:=by
 have i:=h;unfold fa at h ⊢;split at h
 ·exact absurd rfl h
 ·rename_i h1
  rw[if_neg h1];have h2:rgF cells (one e) 0 0 0 0 (0,λ_=>GA)=_:=iL cells e .nil 0 0 0 0 (0,λ_=>GA);have a:ep 0 0 0 0=(0,0):=rfl;rw[a] at h2;simp only at h2;refine⟨by omega,?_,?_⟩
  ·intro c g;have f:¬(cells.any (λc=>decide (c<0)||decide (4<c))=true):=λh=>h1 (.inr h);simp only[List.any_eq_true,not_exists,not_and,IV,decide_eq_true_eq] at f
   have:=f c g
   omega
  ·cases d:rgE cells e 0 0 (0,λ_=>GA) with
   | none=>rw[h2,d] at h;exact absurd rfl h
   | some z =>
    obtain⟨s,k⟩:=z;rw[h2,d] at h ⊢;simp only[rgF] at h ⊢;by_cases b:k=4
    ·rw[if_pos b] at h;exact absurd rfl h
    ·rw[if_neg b];exact⟨s,rfl,b⟩
theorem qe {cells:List Int}{e:Ex}(h1:cells.length<=256)(h2:∀ c,c ∈ cells->0<=c/\c<=4):fa cells e=(match fJ cells e 0 0 (0,λ_=>GA) with|none=>0|some (_,k)=>k):=by
 unfold fa;have f:¬(256<cells.length\/cells.any (λc=>decide (c<0)||decide (4<c))=true):=by
  rintro (h|h)
  ·omega
  ·simp only[List.any_eq_true,IV,decide_eq_true_eq] at h;obtain⟨c,b,h⟩:=h
   have:=h2 c b
   omega
 rw[if_neg f];have d:rgF cells (one e) 0 0 0 0 (0,λ_=>GA)=_:=iL cells e .nil 0 0 0 0 (0,λ_=>GA);have a:ep 0 0 0 0=(0,0):=rfl;rw[d,a];unfold fJ;simp only;cases rgE cells e 0 0 (0,λ_=>GA) with
 | none=>rfl
 | some z =>
  obtain⟨s,k⟩:=z;simp only[rgF];split<;>rfl
theorem qv {cells:List Int}{e:Ex}(h:256<cells.length):fa cells e=0:=by unfold fa;rw[if_pos (.inl h)]
def plV (e:Ex)(ao:Option G1)(cap:Nat)(b:GJ):GJ:=.agg #[.int .i64 e.k,.int .i64 e.n,stv e.nm,.slice ao e.kids.len cap,b]
theorem fe (e:Ex)(ao:Option G1)(cap:Nat)(a:GJ):plV e ao cap a=.agg #[.int .i64 e.k,.int .i64 e.n,stv e.nm,.slice ao e.kids.len cap,a]:=rfl
theorem Fl (cells:List Int):cells.any (λc=>decide (c<0)||decide (4<c))=cells.any nlB:=rfl
theorem sK {cells:List Int}(h:cells.any nlB=false):∀ c,c ∈ cells->0<=c/\c<=4:=by
 intro c a;rw[List.any_eq_false] at h
 have:=h c a
 simp[nlB] at this;omega
theorem sS {cells:List Int}{e:Ex}(h:cells.any nlB=true):fa cells e=0:=by
 unfold fa;rw[if_pos (.inr (by rw[Fl];exact h))]
theorem yH {cells:List Int}{e:Ex}(h1:cells.length<=256)(h2:cells.any nlB=false):fa cells e=(match rgE cells e 0 0 (0,λ_=>GA) with|none=>0|some (_,k)=>if k=4 then 0 else k):=by
 rw[qe h1 (sK h2)];unfold fJ;cases rgE cells e 0 0 (0,λ_=>GA) with
 | none=>rfl
 | some z =>
  obtain⟨s,k⟩:=z;simp only;by_cases a:k=4
  ·rw[if_pos a,if_pos a]
  ·rw[if_neg a,if_neg a]
theorem EP (e:Ex)(ao:Option G1)(cap:Nat)(M:GJ)(cells:List Int)(w:GE)(hf:fs e)(L:Wd w)(u:InA w M cells)(I:cells.length<=1000000000)(S:SnA w e.kids ao) :
  GR GD 72 #[plV e ao cap M] w λx w'=>(∃v,x=.returned (.tuple #[v,.bool (decide (fa cells e≠0))]))/\GK w.heap.size w w':=by
 obtain⟨W,K⟩:=exq (decide (fa cells e≠0));rw[<-K];have m:Hid (W=decide (fa cells e≠0)):=K;clear K;obtain⟨ac,cc,t,r⟩:=u;have u:InA w M cells:=⟨ac,cc,t,r⟩;subst t;clear r;have Q:=L.lt;have c:GK w.heap.size w (w.alloc (zPl e ao cap ac cells.length cc)):=(GN _ w).alloc (GC _) _;have j:(w.alloc (zPl e ao cap ac cells.length cc)).heap[w.heap.size]?=GB (zPl e ao cap ac cells.length cc):=GH w _;have B:SlN (w.alloc (zPl e ao cap ac cells.length cc)) (Lt0 w.heap.size) e.kids ao:=S.mono (λi _ d=>c.block i d) c.size (λk _ d=>d);have N0:Inw (w.alloc (zPl e ao cap ac cells.length cc)) (Lt0 w.heap.size) (.slice ac cells.length cc) cells:=u.mono (λi _ d=>c.block i d) c.size (λk _ d=>d);have D:=u.below c;have C:=L.below c;clear S u L;rw[fe];go_enter Tryz.func72,Tryz.ntmps72;go_upto_region 1 with fail;generalize w.alloc (zPl e ao cap ac cells.length cc)=w0 at *;obtain⟨n0,g⟩:=exq w.heap.size;rw[<-g] at j B N0 Q c ⊢;have n:Hid (n0=w.heap.size):=g;clear g;obtain⟨p0,p1,p2,p3,p4,E⟩:=dT j;by_cases A:256<cells.length
 ·have hI:(256:Int)<(cells.length:Int):=by omega
  have f:Hid (W=false):=by show W=_;rw[m.out,qv A];rfl
  clear m B N0 D C j;go_wp2;refine GG (v:=.tuple #[.nilIface,.bool false]) (by simp[results,J1,go_sem]) rfl ⟨⟨_,by rw[f.out]⟩,?_⟩;rw[<-n.out];exact c
 have hI:¬(256:Int)<(cells.length:Int):=by omega
 have c1:=pd w0 _ cells D I;go_wp2_with fail;refine c1.mono ?_;rintro z w1 ⟨rfl,rfl⟩;cases p:cells.any nlB with
 | true =>
  have f:Hid (W=false):=by show W=_;rw[m.out,sS p];rfl
  clear m B N0 D C j c1;go_wp2;refine GG (v:=.tuple #[.nilIface,.bool false]) (by simp[results,J1,go_sem]) rfl ⟨⟨_,by rw[f.out]⟩,?_⟩;rw[<-n.out];exact c
 | false =>
 have a:Hid (W=decide ((match rgE cells e 0 0 (0,λ_=>GA) with|none=>0|some (_,k)=>if k=4 then 0 else k)≠0)):=by show W=_;rw[m.out,yH (by omega) p]
 clear m c1;have G:=@run_makeMap GD;obtain⟨w2,b⟩:=exq ((w1.alloc (.map #[] 0)).alloc (.cells #[.slice ac cells.length cc,.map (GB w1.heap.size),.int .i64 0] 170));have b2:GK w1.heap.size w1 w2:=by rw[b];exact((GN _ w1).alloc (GC _) _).alloc (by simp) _
 have T:MpN w2 (Lt0 n0) w1.heap.size 0 (λ_=>GA):=by
  rw[b];exact(MpN.made w1 (Lt0 n0)).mono (GO _ _ _ (by simp)) (λk _ d=>GO _ _ _ d) (by simp)
 have N:w2.heap[w1.heap.size+1]?=GB (.cells #[.slice ac cells.length cc,.map (GB w1.heap.size),.int .i64 0] 170 (0,0)):=by
  rw[b]
  have:=GH (w1.alloc (.map #[] 0)) (.cells #[.slice ac cells.length cc,.map (GB w1.heap.size),.int .i64 0] 170)
  simpa using this
 have R:RD w2 n0 (w1.heap.size+1) w1.heap.size (.slice ac cells.length cc) 0 (0,λ_=>GA):=⟨N,⟨0,GC _,T⟩,by show 0<=4096;omega,λi y h=>by cases h⟩;have H:=GF j;have c4:=ss (e.kids.size+1) e ao cap n0 (w1.heap.size+1) w1.heap.size (.slice ac cells.length cc) cells 0 0 (0,λ_=>GA) 0 w2 (by omega) hf (by omega) (by omega) (by omega) (by omega) (by omega) (by omega) Q (C.below b2) R (N0.below b2) (B.belowP b2);rw[dS] at c4;have V:=(b2.block _ H).trans j;have q:n0<=w1.heap.size:=by omega
 have P:w1.heap.size+2<=w2.heap.size:=by have:=GF N;omega
 clear j B N0 D C T N R;go_upto_region 4 with fail;rw[<-b];clear b G p0 p1 p2 p3 p4 E;obtain⟨p0,p1,p2,p3,p4,E⟩:=dT V;have o:Hid (∀ s k,rgE cells e 0 0 (0,λ_=>GA)=GB (s,k)->k≠0):=λs k h=>ma h;generalize rgE cells e 0 0 (0,λ_=>GA)=rr at *;go_wp2_with fail;refine c4.mono ?_;rintro z w3 ⟨⟨v,rfl,F⟩,-,U⟩;have O:GK n0 w w3:=(c.trans (b2.mono q)).trans (U.below (by omega) q (by omega));clear c4 p0 p1 p2 p3 p4 E V U b2;cases rr with
 | none =>
  have f:Hid (W=false):=by show W=_;rw[a.out];rfl
  clear a F;simp only[Jv];go_wp2;refine GG (v:=.tuple #[.nilIface,.bool false]) (by simp[results,J1,go_sem]) rfl ⟨⟨_,by rw[f.out]⟩,?_⟩;rw[<-n.out];exact O
 | some Y =>
  obtain⟨s2,k⟩:=Y;obtain⟨ty,Z,rfl,he⟩:=F s2 k rfl;have c5:=λw=>tv k w;simp only[Ju];clear F;go_wp2_with fail;refine(c5 _).mono ?_;rintro z w4 ⟨rfl,b4⟩;have X:GK n0 w w4:=O.trans (b4.mono (by have h1:=O.size;have h2:=n.out;omega));by_cases l:k=4
  ·have J:(k==4)=true:=by simpa using l
   have f:Hid (W=false):=by show W=_;rw[a.out];simp[l]
   clear a l c5;go_wp2;refine GG (v:=.tuple #[.nilIface,.bool false]) (by simp[results,J1,go_sem]) rfl ⟨⟨_,by rw[f.out]⟩,?_⟩;rw[<-n.out];exact X
  ·have J:(k==4)=false:=by simpa using l
   have f:Hid (W=true):=by show W=_;rw[a.out];simp[l,o.out s2 k rfl]
   clear a l c5;go_wp2;refine GG (v:=.tuple #[.iface ty Z,.bool true]) (by simp[results,J1,go_sem]) rfl ⟨⟨_,by rw[f.out]⟩,?_⟩;rw[<-n.out];exact X
theorem Aw (e:Ex)(ao:Option G1)(cap:Nat)(g:GJ)(cells:List Int)(w:GE)(h:fs e)(i:Wd w)(f:InA w g cells)(d:cells.length<=1000000000)(S:SnA w e.kids ao) :
  GR GD 38 #[plV e ao cap g] w λx w'=>x=.returned (.bool (decide (fa cells e≠0)))/\GK w.heap.size w w':=by
 obtain⟨ac,cc,b,a⟩:=f;have f:InA w g cells:=⟨ac,cc,b,a⟩;subst b;clear a;have c:GK w.heap.size w (w.alloc (zPl e ao cap ac cells.length cc)):=(GN _ w).alloc (GC _) _;have c1:=EP e ao cap _ cells _ h (i.below c) (f.below c) d (SnA.below S c);generalize decide (fa cells e≠0)=W at *;rw[fe] at c1 ⊢;go_enter Tryz.func38,Tryz.ntmps38;go_wp2_with fail;refine c1.mono ?_;rintro z w1 ⟨⟨v,rfl⟩,b1⟩;have j:=c.trans (b1.mono c.size);clear c1 b1;go_wp2;go_ret;exact⟨rfl,j⟩
def iT (w:GE)(e:Ex)(x:IG)(w':GE):Prop :=
 if (lA e).2.1=0 then ∃a b,x=.returned (.tuple #[plV (ofE e []) a b (.slice GA 0 0),.int .i64 0])/\SlN w' (Nw w.heap.size) (ofE e []).kids a/\GK w.heap.size w w'
 else x=.returned (.tuple #[.agg #[.int .i64 0,.int .i64 0,.string ⟨#[]⟩,.slice GA 0 0,.slice GA 0 0],.int .i64 140])/\GK w.heap.size w w'
theorem zb (e:Ex)(ao:Option G1)(cap:Nat)(w:GE)(G:e.fit)(U:e.kids.size<=1000000)(S:SlT w e.kids ao) :
  GR GD 20 #[exV e ao cap] w (iT w e):=by
 obtain⟨w0,c⟩:=exq ((w.alloc (zEx e ao cap)).alloc (.cells #[.int .i64 0,.int .i64 0,.string ⟨#[]⟩,.slice GA 0 0,.slice GA 0 0] 37));have t:GK w.heap.size w w0:=by rw[c];exact((GN _ w).alloc (GC _) _).alloc (by simp) _
 have q:w0.heap[w.heap.size]?=GB (zEx e ao cap):=by
  rw[c];exact(GO _ _ _ (by simp)).trans (GH w _)
 have r:w0.heap[w.heap.size+1]?=GB (.cells #[.int .i64 0,.int .i64 0,.string ⟨#[]⟩,.slice GA 0 0,.slice GA 0 0] 37 (0,0)):=by
  rw[c]
  have:=GH (w.alloc (zEx e ao cap)) (.cells #[.int .i64 0,.int .i64 0,.string ⟨#[]⟩,.slice GA 0 0,.slice GA 0 0] 37)
  simpa using this
 have J:=SlT.below S t;have c1:=zX e ao cap w0 G J;rw[dU] at c1 ⊢;go_enter Tryz.func20,Tryz.ntmps20;go_upto_region 1 with fail;rw[<-c];clear c;obtain⟨n0,g⟩:=exq w.heap.size;rw[<-g] at q r t;try rw[<-g]
 have M:Hid (n0=w.heap.size):=g;clear g;obtain⟨p0,p1,p2,p3,p4,D⟩:=dT q;have o:Hid (∀ (x:IG) (w':GE),(if (lA e).2.1=0 then ∃b f,x=.returned (.tuple #[plV (ofE e []) b f (.slice GA 0 0),.int .i64 0])/\SlN w' (Nw w.heap.size) (ofE e []).kids b/\GK w.heap.size w w' else x=.returned (.tuple #[.agg #[.int .i64 0,.int .i64 0,.string ⟨#[]⟩,.slice GA 0 0,.slice GA 0 0],.int .i64 140])/\GK w.heap.size w w')->iT w e x w'):=λx w' h=>h;generalize lA e=T at *;obtain⟨X,C,W⟩:=T;simp only at o;go_wp2_with fail;refine c1.mono ?_;rintro x w1 ⟨rfl,b1⟩;have E:=GF r;have N:=(b1.block _ (GF q)).trans q;have i:=(b1.block _ E).trans r;have s:=t.trans (b1.mono (by omega));have I:=SlT.below J b1;clear c1 b1 q r p0 p1 p2 p3 p4 D J t;obtain⟨p0,p1,p2,p3,p4,D⟩:=dT N;obtain⟨z0,P,z2,z3,z4,O⟩:=dT i;simp only[AN];by_cases d:C=0
 ·have V:((C:Int) != 0)=false:=by simp[d]
  have c2:=vH (e.kids.size+1) e ao cap [] (.slice GA 0 0) w1 (by omega) G.len G.sh (by simp;omega) (Nms.nil w1) I;rw[dU] at c2;have m:Hid (∀ (x:IG) (w':GE),(∃b f,x=.returned (.tuple #[plV (ofE e []) b f (.slice GA 0 0),.int .i64 0])/\SlN w' (Nw w.heap.size) (ofE e []).kids b/\GK w.heap.size w w')->iT w e x w'):=λx w' h=>o.out x w' (by rw[if_pos d];exact h);generalize ofE e []=y at *;clear o I d z0 P z2 z3 z4 O;go_wp2_with fail;refine c2.mono ?_;rintro x w2 ⟨b,f,rfl,Q,b2⟩;have H:=(b2.block _ (GF i)).trans i;have R:=s.trans (b2.mono (by have:=GF i;omega));have F:=GF i;have L:Hid (∃a,a=(((((w2.setCell ⟨n0+1,0,GA⟩ (.int .i64 y.k)).setCell ⟨n0+1,1,GA⟩ (.int .i64 y.n)).setCell ⟨n0+1,2,GA⟩ (stv y.nm)).setCell ⟨n0+1,3,GA⟩ (.slice b y.kids.len f)).setCell ⟨n0+1,4,GA⟩ (.slice GA 0 0))/\a.cell? ⟨n0+1,0,GA⟩=GB (.int .i64 y.k)/\a.cell? ⟨n0+1,1,GA⟩=GB (.int .i64 y.n)/\a.cell? ⟨n0+1,2,GA⟩=GB (stv y.nm)/\a.cell? ⟨n0+1,3,GA⟩=GB (.slice b y.kids.len f)/\a.cell? ⟨n0+1,4,GA⟩=GB (.slice GA 0 0)/\iT w e (.returned (.tuple #[.agg #[.int .i64 y.k,.int .i64 y.n,stv y.nm,.slice b y.kids.len f,.slice GA 0 0],.int .i64 0])) a):=by
   obtain⟨B,A,z,u3,u,-⟩:=dT (eT (.int .i64 y.k) (.int .i64 y.n) (stv y.nm) (.slice b y.kids.len f) (.slice GA 0 0) H);refine⟨_,rfl,B,A,z,u3,u,m.out _ _ ⟨b,f,rfl,?_,?_⟩⟩
   ·exact Q.mono (λk l _=>im w2 (n0+1) k _ _ _ _ _ (by have l:w1.heap.size<=k:=l;omega)) (by simp) (λk l _=>by have l:w1.heap.size<=k:=l;have:=M.out;show w.heap.size<=k;omega)
   ·rw[<-M.out];exact(((((R.setCell (p:=⟨n0+1,0,GA⟩) (Hv _) _).setCell (p:=⟨n0+1,1,GA⟩) (Hv _) _).setCell (p:=⟨n0+1,2,GA⟩) (Hv _) _).setCell (p:=⟨n0+1,3,GA⟩) (Hv _) _).setCell (p:=⟨n0+1,4,GA⟩) (Hv _) _)
  obtain⟨z0,P,z2,z3,z4,O⟩:=dT H;clear c2 Q b2 H R i N s p0 p1 p2 p3 p4 D m F;rw[dS];go_wp2;obtain⟨a,j,v0,v1,v2,v3,v4,K⟩:=L.out;rw[<-j];exact GG (v:=.tuple #[.agg #[.int .i64 y.k,.int .i64 y.n,stv y.nm,.slice b y.kids.len f,.slice GA 0 0],.int .i64 0]) (by simp[results,Tryz.results20,go_sem,v0,v1,v2,v3,v4]) rfl K
 ·have V:((C:Int) != 0)=true:=by simp;omega
  have L:Hid (∃a,a=(((((w1.setCell ⟨n0+1,0,GA⟩ (.int .i64 0)).setCell ⟨n0+1,1,GA⟩ (.int .i64 0)).setCell ⟨n0+1,2,GA⟩ (.string ⟨#[]⟩)).setCell ⟨n0+1,3,GA⟩ (.slice GA 0 0)).setCell ⟨n0+1,4,GA⟩ (.slice GA 0 0))/\a.cell? ⟨n0+1,0,GA⟩=GB (.int .i64 0)/\a.cell? ⟨n0+1,1,GA⟩=GB (.int .i64 0)/\a.cell? ⟨n0+1,2,GA⟩=GB (.string ⟨#[]⟩)/\a.cell? ⟨n0+1,3,GA⟩=GB (.slice GA 0 0)/\a.cell? ⟨n0+1,4,GA⟩=GB (.slice GA 0 0)/\iT w e (.returned (.tuple #[.agg #[.int .i64 0,.int .i64 0,.string ⟨#[]⟩,.slice GA 0 0,.slice GA 0 0],.int .i64 140])) a):=by
   obtain⟨B,A,z,u3,u,-⟩:=dT (eT (.int .i64 0) (.int .i64 0) (.string ⟨#[]⟩) (.slice GA 0 0) (.slice GA 0 0) i);refine⟨_,rfl,B,A,z,u3,u,o.out _ _ ?_⟩;rw[if_neg d,<-M.out];exact⟨rfl,(((((s.setCell (p:=⟨n0+1,0,GA⟩) (Hv _) _).setCell (p:=⟨n0+1,1,GA⟩) (Hv _) _).setCell (p:=⟨n0+1,2,GA⟩) (Hv _) _).setCell (p:=⟨n0+1,3,GA⟩) (Hv _) _).setCell (p:=⟨n0+1,4,GA⟩) (Hv _) _)⟩
  clear o d N i s I;go_wp2;obtain⟨a,j,v0,v1,v2,v3,v4,K⟩:=L.out;rw[<-j];exact GG (v:=.tuple #[.agg #[.int .i64 0,.int .i64 0,.string ⟨#[]⟩,.slice GA 0 0,.slice GA 0 0],.int .i64 140]) (by simp[results,Tryz.results20,go_sem,v0,v1,v2,v3,v4]) rfl K
def Qd {α:Type}(f:List Tk->Rs α)(st:Sq)(X:α)(b:Sq):Prop:=b=onw f st/\∀ ts y t,st=.inr ts->f ts=.ok y t->X=y
def Nou {α:Type}(f:List Tk->Rs α)(st:Sq):Prop:=∀ ts,st=.inr ts->f ts≠.out
theorem Nou.fst {α β:Type}{f:List Tk->Rs α}{g:α->List Tk->Rs β}{st:Sq}(h:Nou (λts=>(f ts).bind g) st):Nou f st:=λts a e=>h ts a (by show (f ts).bind g=_;rw[e];rfl)
theorem Nou.snd {α β:Type}{f:List Tk->Rs α}{g:α->List Tk->Rs β}{st b:Sq}{x:α}(h:Nou (λts=>(f ts).bind g) st)(q:Qd f st x b):Nou (g x) b:=by
 obtain⟨rfl,q⟩:=q
 match st with
 | .inl k=>intro ts d;cases d
 | .inr t0 =>
  intro ts d e;cases c:f t0 using Rs.on with
  | out=>exact h t0 rfl (by show (f t0).bind g=_;rw[c];rfl)
  | bad i a=>simp[onw,c,stp] at d
  | ok y t =>
   have j:=q t0 y t rfl c;subst j;have i:t=ts:=by simpa [onw,c,stp] using d
   subst i;exact h t0 rfl (by show (f t0).bind g=_;rw[c];exact e)
theorem Qd.bind {α β:Type}{f:List Tk->Rs α}{g:α->List Tk->Rs β}{st h i:Sq}{x:α}{X:β}(p:Qd f st x h)(q:Qd (g x) h X i):Qd (λts=>(f ts).bind g) st X i:=by
 obtain⟨rfl,p⟩:=p;obtain⟨rfl,q⟩:=q
 match st with
 | .inl k=>exact⟨rfl,λts y t d=>by cases d⟩
 | .inr t0 =>
  cases c:f t0 using Rs.on with
  | out =>
   refine⟨by simp[onw,c,stp,Rs.bind],λts y t d b=>?_⟩;cases d;have b:(f t0).bind g=_:=b;rw[c] at b;cases b
  | bad e a =>
   refine⟨by simp[onw,c,stp,Rs.bind],λts y t d b=>?_⟩;cases d;have b:(f t0).bind g=_:=b;rw[c] at b;cases b
  | ok y t =>
   have j:=p t0 y t rfl c;subst j;refine⟨by simp[onw,c,stp,Rs.bind],λts z t2 d b=>?_⟩;cases d;have b:(f t0).bind g=_:=b;rw[c] at b;exact q t z t2 (by simp[onw,c,stp]) b
theorem Qd.ret {α:Type}(X:α)(st:Sq):Qd (λt=>.ok X t) st X st:=by
 match st with
 | .inl c=>exact⟨rfl,λts y t a=>by cases a⟩
 | .inr t0=>exact⟨rfl,λts y t a b=>(Rs.ok_inj b).1⟩
theorem Qd.any {α:Type}[Inhabited α](f:List Tk->Rs α)(st:Sq):∃X,Qd f st X (onw f st):=by
 match st with
 | .inl g=>exact⟨default,rfl,λts y t c=>by cases c⟩
 | .inr t0 =>
  cases d:f t0 using Rs.on with
  | out=>exact⟨default,rfl,λts y t c b=>by cases c;rw[d] at b;cases b⟩
  | bad e a=>exact⟨default,rfl,λts y t c b=>by cases c;rw[d] at b;cases b⟩
  | ok y t=>exact⟨y,rfl,λts z t2 c b=>by cases c;rw[d] at b;exact(Rs.ok_inj b).1⟩
theorem Qd.congr {α:Type}{f g:List Tk->Rs α}{st a:Sq}{X:α}(h:Qd f st X a)(e:∀ ts,st=.inr ts->f ts=g ts):Qd g st X a:=by
 obtain⟨rfl,h⟩:=h
 match st with
 | .inl d=>exact⟨rfl,λts y t b=>by cases b⟩
 | .inr t0=>exact⟨by simp only[onw];rw[e t0 rfl],λts y t b c=>by rw[<-e ts b] at c;exact h ts y t b c⟩
theorem Nou.congr {α:Type}{f g:List Tk->Rs α}{st:Sq}(h:Nou f st)(e:∀ ts,st=.inr ts->f ts=g ts):Nou g st:=λts a=>by rw[<-e ts a];exact h ts a
def gq (rb:Nat)(all:List Tk)(o q:Nat)(w:GE)(st:Sq)(f:List Tk->Rs Ex)(e:IG)(w':GE):Prop :=
 ∃X ao cap b,e=.returned (exV X ao cap)/\Sl w' (Nw w.heap.size) X.kids ao/\QS w' rb all o q b/\dX rb w w'/\Qd f st X b
def mI (rec:Rdr):Prop :=
 ∀ (w:GE) (rb:Nat) (all:List Tk) (row o q:Nat) (st:Sq),(∀ x,x ∈ all->iE x)->1<=row->row<=7->QS w rb all o q st->Nou (rec row o q) st->GR GD 28 #[.pointer (GB ⟨rb,0,GA⟩),.int .i64 row] w (gq rb all o q w st (rec row o q))
theorem QS.alloc {w:GE}{rb o q:Nat}{all:List Tk}{st:Sq}(h:QS w rb all o q st)(a:Obj):QS (w.alloc a) rb all o q st:=h.below ((GN _ w).alloc (GC _) a)
theorem Rq.setP {w:GE}{rb i:Nat}{o q:Int}{er pl:Nat}{all:List Tk}(h:Rq w rb i o q er pl all)(p:G1)(v:GJ)(d:rb<p.block):Rq (w.setCell p v) rb i o q er pl all:=by
 obtain⟨g,cap,h1,h2,c,h5⟩:=h;exact⟨g,cap,(GP w p rb v (by omega)).trans h1,h2,λj u b=>(GS (a:=⟨g,j,GA⟩) (GP w p g v (by omega))).trans (c j u b),h5⟩
theorem QS.setP {w:GE}{rb o q:Nat}{all:List Tk}{st:Sq}(h:QS w rb all o q st)(p:G1)(v:GJ)(b:rb<p.block):QS (w.setCell p v) rb all o q st:=by
 match st,h with
 | .inl (er,a),⟨i,o',c,h1,h2⟩=>exact⟨i,o',c,h1.setP p v b,h2⟩
 | .inr ts,⟨i,pl,h1,h2⟩=>exact⟨i,pl,h1.setP p v b,h2⟩
theorem QS.set5 {w:GE}{rb o q:Nat}{all:List Tk}{st:Sq}(h:QS w rb all o q st){b:Nat}(a:rb<b)(b0 b1 b2 b3 c:GJ):QS (((((w.setCell ⟨b,0,GA⟩ b0).setCell ⟨b,1,GA⟩ b1).setCell ⟨b,2,GA⟩ b2).setCell ⟨b,3,GA⟩ b3).setCell ⟨b,4,GA⟩ c) rb all o q st:=((((h.setP ⟨b,0,GA⟩ b0 a).setP ⟨b,1,GA⟩ b1 a).setP ⟨b,2,GA⟩ b2 a).setP ⟨b,3,GA⟩ b3 a).setP ⟨b,4,GA⟩ c a
theorem rG {w:GE}{rb o q:Nat}{all:List Tk}{x:Tk}{r:List Tk}(s:List UInt8)(f:s≠[])(c:x.t=s)(h:QS w rb all o q (.inr (x::r))) :
  GR GD 104 #[.pointer (GB ⟨rb,0,GA⟩)] w λe w'=>e=.returned (.tuple #[])/\QS w' rb all (o+1) q (onw (ej s o) (.inr (x::r)))/\dX rb w w':=by
 by_cases b:o=64
 ·subst b;have d:onw (ej s 64) (.inr (x::r))=.inl (121,x.a):=by simp[onw,ej,c,stp]
  rw[d];exact wP h
 ·have d:onw (ej s o) (.inr (x::r))=.inr r:=by simp[onw,ej,c,stp,b]
  rw[d];exact rE (by have:=h.le.1;omega) (by rw[c];exact f) h
theorem md {o:Nat}{x:Tk}{r:List Tk}(s:List UInt8):Qd (ej s o) (.inr (x::r)) x.a (onw (ej s o) (.inr (x::r))):=by
 refine⟨rfl,λts y t e b=>?_⟩;cases e;unfold ej at b;by_cases d:x.t=s
 ·by_cases c:o=64
  ·simp[d,c] at b
  ·simp[d,c] at b;exact b.1
 ·simp[d] at b
def Ctx {β:Type}(F:List Tk->Rs β)(b:Sq)(G:List Tk->Rs β)(st:Sq):Prop:=Nou G st/\∀ X a,Qd G st X a->Qd F b X a
theorem Ctx.start {β:Type}{F:List Tk->Rs β}{st:Sq}(h:Nou F st):Ctx F st F st:=⟨h,λ_ _ q=>q⟩
theorem Ctx.nou {α β:Type}{F:List Tk->Rs β}{a st:Sq}{f:List Tk->Rs α}{g:α->List Tk->Rs β}(h:Ctx F a (λts=>(f ts).bind g) st):Nou f st:=h.1.fst
theorem Ctx.step {α β:Type}{F:List Tk->Rs β}{b st a:Sq}{f:List Tk->Rs α}{g:α->List Tk->Rs β}{x:α}(h:Ctx F b (λts=>(f ts).bind g) st)(q:Qd f st x a):Ctx F b (g x) a:=⟨h.1.snd q,λX c q2=>h.2 X c (q.bind q2)⟩
theorem Ctx.fin {β:Type}{F:List Tk->Rs β}{a st:Sq}{X:β}(h:Ctx F a (λt=>.ok X t) st):Qd F a X st:=h.2 X st (Qd.ret X st)
def wK (rb:Nat)(all:List Tk)(o q:Nat)(w:GE)(st:Sq)(f:List Tk->Rs Nat)(e:IG)(w':GE):Prop :=
 ∃X b,e=.returned (.tuple #[])/\QS w' rb all o q b/\dX rb w w'/\Qd f st X b
theorem DO {rb:Nat}{all:List Tk}{o q:Nat}{w:GE}{st:Sq}(f:List Tk->Rs Nat){e:IG}{w':GE}(h:e=.returned (.tuple #[])/\QS w' rb all o q (onw f st)/\dX rb w w'):wK rb all o q w st f e w':=by
 obtain⟨X,a⟩:=Qd.any f st;exact⟨X,_,h.1,h.2.1,h.2.2,a⟩
theorem pn {w:GE}{rb o q:Nat}{all:List Tk}{st:Sq}(c:∀ x,x ∈ all->iE x)(s:List UInt8)(a:s≠[]/\eE s=false)(h:QS w rb all o q st) :
  GR GD 203 #[.pointer (GB ⟨rb,0,GA⟩),stv s] w (wK rb all o q w st (eD s)):=(tH c s a.1 a.2 h).mono λ_ _ b=>DO _ b
theorem lh {w:GE}{rb o q:Nat}{all:List Tk}{st:Sq}(c:∀ x,x ∈ all->iE x)(s:List UInt8)(a:s≠[]/\eE s=false)(h:QS w rb all (o+1) q st) :
  GR GD 161 #[.pointer (GB ⟨rb,0,GA⟩),stv s] w (wK rb all o q w st (eD s)):=(Ch c s a.1 a.2 h).mono λ_ _ b=>DO _ b
theorem kV {w:GE}{rb o q:Nat}{all:List Tk}{st:Sq}(d:∀ x,x ∈ all->iE x)(s:List UInt8)(b:s≠[]/\eE s=false)(h:QS w rb all o q st) :
  GR GD 160 #[.pointer (GB ⟨rb,0,GA⟩),stv s] w (wK rb all (o+1) q w st (ej s o)):=(qG d s b.1 b.2 h).mono λ_ _ a=>by
 obtain⟨X,c⟩:=Qd.any (ej s o) st;exact⟨X,_,a.1,a.2.1,a.2.2,c⟩
theorem Bv {rec:Rdr}(R:mI rec){w:GE}{rb o q:Nat}{all:List Tk}{x:Tk}{r:List Tk}(TI:∀ x,x ∈ all->iE x)(hx:x.t=[105,102])(h:QS w rb all o q (.inr (x::r)))(hn:Nou (gM rec o q) (.inr (x::r))) :
  GR GD 162 #[.pointer (GB ⟨rb,0,GA⟩),.int .i64 (x.a:Nat)] w (gq rb all o q w (.inr (x::r)) (gM rec o q)):=by
 have C0:=Ctx.start hn;have q0:=md (o:=o) (x:=x) (r:=r) [105,102];have aS:=h.lt;have K0:dX rb w (w.alloc exZ):=(dX.refl rb w).alloc _;have Z0:(w.alloc exZ).heap[w.heap.size]?=GB exZ:=GH w _;have h0:=h.alloc exZ;have c1:=rG [105,102] (by decide) hx h0;have C1:=C0.step q0;generalize onw (ej [105,102] o) (.inr (x::r))=aq at *;clear C0 q0 hn;go_enter Tryz.func162,Tryz.ntmps162;go_wp2_with fail;refine c1.mono ?_;rintro e w1 ⟨rfl,h1,k1⟩;clear c1;have Z1:=k1.blk Z0 (by have:=K0.size;omega);have K1:=K0.trans k1;clear K0 Z0;have c2:=R _ rb all 1 (o+1) (q) aq TI (by omega) (by omega) h1 C1.nou;go_wp2_with fail;refine c2.mono ?_;rintro e w2 ⟨f,p,j,aR,rfl,S2,h2,k2,Q2⟩;have C2:=C1.step Q2;clear c2 Q2 C1;have an:=S2.low (show (w.heap.size+1)<=_ from (by have:=GF Z1;omega));clear S2;have Z2:=k2.blk Z1 (by have:=K1.size;omega);have K2:=K1.trans k2;clear K1 Z1;have au:=h2.alloc (zEx f p j);have ag:=K2.alloc (zEx f p j);have ak:=(GO w2 (zEx f p j) _ (GF Z2)).trans Z2;have aa:(Ib w2 (zEx f p j)).heap[w2.heap.size]?=GB (zEx f p j):=GH w2 _;have B:=an.allocN (zEx f p j);have aV:rb<w2.heap.size:=by have:=K2.size;omega
 clear h2 K2 Z2 an;rw[dU];have c3:=pn TI [116,104,101,110] ⟨by decide,by decide⟩ au;go_wp2_with fail;refine c3.mono ?_;rintro e w3 ⟨x3,ap,rfl,h3,k3,Q3⟩;have C3:=C2.step Q3;clear c3 Q3 C2;have Z3:=k3.blk ak (by have:=ag.size;omega);have K3:=ag.trans k3;have ad:=k3.blk aa (by omega);have Q:=B.keepN k3 (by omega);clear ag ak aa B;have c4:=R _ rb all 1 (o+1) (q) ap TI (by omega) (by omega) h3 C3.nou;go_wp2_with fail;refine c4.mono ?_;rintro e w4 ⟨d,m,i,aQ,rfl,S4,h4,k4,Q4⟩;have C4:=C3.step Q4;clear c4 Q4 C3;have am:=S4.low (show (w.heap.size+1)<=_ from (by have:=GF Z3;omega));clear S4;have Z4:=k4.blk Z3 (by have:=K3.size;omega);have K4:=K3.trans k4;have H:=k4.blk ad (by omega);have P:=Q.keepN k4 (by omega);clear K3 Z3 ad Q;have ar:=h4.alloc (zEx d m i);have af:=K4.alloc (zEx d m i);have aj:=(GO w4 (zEx d m i) _ (GF Z4)).trans Z4;have G:=(GO w4 (zEx d m i) _ (GF H)).trans H;have X:(Ib w4 (zEx d m i)).heap[w4.heap.size]?=GB (zEx d m i):=GH w4 _;have A:=P.allocN (zEx d m i);have y:=am.allocN (zEx d m i);have aU:rb<w4.heap.size:=by have:=K4.size;omega
 clear h4 K4 Z4 H P am;rw[dU];have c5:=pn TI [101,108,115,101] ⟨by decide,by decide⟩ ar;go_wp2_with fail;refine c5.mono ?_;rintro e w5 ⟨x5,ao,rfl,h5,k5,Q5⟩;have C5:=C4.step Q5;clear c5 Q5 C4;have Z5:=k5.blk aj (by have:=af.size;omega);have K5:=af.trans k5;have ac:=k5.blk G (by omega);have Z:=k5.blk X (by omega);have O:=A.keepN k5 (by omega);have L:=y.keepN k5 (by omega);clear af aj G X A y;have c6:=R _ rb all 1 (o+1) (q) ao TI (by omega) (by omega) h5 C5.nou;go_wp2_with fail;refine c6.mono ?_;rintro e T ⟨c,l,g,aP,rfl,S6,h6,k6,Q6⟩;have C6:=C5.step Q6;clear c6 Q6 C5;have al:=S6.low (show (w.heap.size+1)<=_ from (by have:=GF Z5;omega));clear S6;have Z6:=k6.blk Z5 (by have:=K5.size;omega);have K6:=K5.trans k6;have F:=k6.blk ac (by omega);have D:=k6.blk Z (by omega);have N:=O.keepN k6 (by omega);have K:=L.keepN k6 (by omega);clear K5 Z5 ac Z O L;have ah:=h6.alloc (zEx c l g);have ae:=K6.alloc (zEx c l g);have ai:=(GO T (zEx c l g) _ (GF Z6)).trans Z6;have E:=(GO T (zEx c l g) _ (GF F)).trans F;have C:=(GO T (zEx c l g) _ (GF D)).trans D;have V:(Ib T (zEx c l g)).heap[T.heap.size]?=GB (zEx c l g):=GH T _;have z:=N.allocN (zEx c l g);have u:=K.allocN (zEx c l g);have s:=al.allocN (zEx c l g);have aT:rb<T.heap.size:=by have:=K6.size;omega
 clear h6 K6 Z6 F D N K al;rw[dU];go_upto_region 7 with fail;generalize (Ib T (zEx c l g))=v7 at *;obtain⟨o8,d8,av,h8⟩:=ah.down;have U:dX rb v7 _:=dX.at v7 2 (.int .i64 (Ho (o8-1)));clear ah;go_upto_region 8 with fail;generalize v7.setCell ⟨rb,2,GA⟩ (.int .i64 (Ho (o8-1)))=S at *;clear d8 av;have Z8:=U.blk ai (by have:=ae.size;omega);have K8:=ae.trans U;have ab:=U.blk E (by omega);have Y:=U.blk C (by omega);have W:=U.blk V (by omega);have M:=z.keepN U (by omega);have J:=u.keepN U (by omega);have I:=s.keepN U (by omega);clear ae ai E C V z u s;have NS:Sl (Ib S (.cells [.int .i64 f.k,.int .i64 f.n,stv f.nm,.slice p f.kids.len j,.int .i64 f.a,.int .i64 d.k,.int .i64 d.n,stv d.nm,.slice m d.kids.len i,.int .i64 d.a,.int .i64 c.k,.int .i64 c.n,stv c.nm,.slice l c.kids.len g,.int .i64 c.a].toArray 25)) (Nw (w.heap.size+1)) (((one f).snoc d).snoc c) (GB ⟨S.heap.size,0,GA⟩):=Sl.fresh _ 25 (Fc.app (Fc.app (Fc.one (e:=f) j M) (Fc.one (e:=d) i J)) (Fc.one (e:=c) g I)) (by have:=GF Z8;omega);have KF:=K8.alloc (.cells [.int .i64 f.k,.int .i64 f.n,stv f.nm,.slice p f.kids.len j,.int .i64 f.a,.int .i64 d.k,.int .i64 d.n,stv d.nm,.slice m d.kids.len i,.int .i64 d.a,.int .i64 c.k,.int .i64 c.n,stv c.nm,.slice l c.kids.len g,.int .i64 c.a].toArray 25);have RF:=h8.alloc (.cells [.int .i64 f.k,.int .i64 f.n,stv f.nm,.slice p f.kids.len j,.int .i64 f.a,.int .i64 d.k,.int .i64 d.n,stv d.nm,.slice m d.kids.len i,.int .i64 d.a,.int .i64 c.k,.int .i64 c.n,stv c.nm,.slice l c.kids.len g,.int .i64 c.a].toArray 25);have ZF:=(GO S (.cells [.int .i64 f.k,.int .i64 f.n,stv f.nm,.slice p f.kids.len j,.int .i64 f.a,.int .i64 d.k,.int .i64 d.n,stv d.nm,.slice m d.kids.len i,.int .i64 d.a,.int .i64 c.k,.int .i64 c.n,stv c.nm,.slice l c.kids.len g,.int .i64 c.a].toArray 25) _ (GF Z8)).trans Z8;have KE:=KF.set5 (b:=w.heap.size) (by omega) (.int .i64 19) (.int .i64 0) (stv []) (.slice (GB ⟨S.heap.size,0,GA⟩) 3 3) (.int .i64 x.a);have RE:=RF.set5 (b:=w.heap.size) (by omega) (.int .i64 19) (.int .i64 0) (stv []) (.slice (GB ⟨S.heap.size,0,GA⟩) 3 3) (.int .i64 x.a);have ZE:=eT (.int .i64 19) (.int .i64 0) (stv []) (.slice (GB ⟨S.heap.size,0,GA⟩) 3 3) (.int .i64 x.a) ZF;have SE:Sl _ (Nw w.heap.size) _ _:=(NS.set5 (b:=w.heap.size) (by omega) (.int .i64 19) (.int .i64 0) (stv []) (.slice (GB ⟨S.heap.size,0,GA⟩) 3 3) (.int .i64 x.a)).low (by omega);obtain⟨z0,z1,z2,z3,z4,zf⟩:=dT ZF;obtain⟨u0,u1,u2,u3,u4,-⟩:=dT ZE;obtain⟨aO,aN,aM,aL,aK,aJ⟩:=dT ab;obtain⟨aI,aH,aG,aF,aE,aD⟩:=dT Y;obtain⟨aC,aB,aA,az,ay,ax⟩:=dT W;have aw:=C6.fin;clear C6 ZE ZF KF RF NS K8 Z8 h8 ab Y W M J I;go_wp2;exact GG (v:=exV ⟨19,0,[],x.a,(((one f).snoc d).snoc c)⟩ (GB ⟨S.heap.size,0,GA⟩) 3) (by simp[results,Tryz.results162,go_sem,u0,u1,u2,u3,u4,exV];rfl) rfl ⟨_,_,_,_,rfl,SE,RE,KE,aw⟩
theorem FD {rec:Rdr}(R:mI rec){w:GE}{rb o q:Nat}{all:List Tk}{x:Tk}{r:List Tk}(TI:∀ x,x ∈ all->iE x)(h:QS w rb all o q (.inr (x::r)))(Y:Nou (fX rec [110,111,116] 7 3 o q) (.inr (x::r))) :
  GR GD 51 #[.pointer (GB ⟨rb,0,GA⟩)] w (gq rb all o q w (.inr (x::r)) (fX rec [110,111,116] 7 3 o q)):=by
 have am:=h.lt;have K:dX rb w (w.alloc exZ):=(dX.refl rb w).alloc _;have Z0:(w.alloc exZ).heap[w.heap.size]?=GB exZ:=GH w _;have Q:=h.alloc exZ;have al:w.heap.size<(w.alloc exZ).heap.size:=by simp
 have c0:=tY TI [110,111,116] (by decide) (by decide) Q;by_cases z:x.t=[110,111,116]
 ·have G:∀ ts,(.inr (x::r):Sq)=.inr ts->fX rec [110,111,116] 7 3 o q ts=(λts=>(ej [110,111,116] o ts).bind λa t1=>(rec 3 (o+1) q t1).bind λkid t2=>.ok ⟨7,0,[],(a:Nat),one kid⟩ t2) ts:=λts C=>by
   cases C;show (if x.t=[110,111,116] then _ else _)=(ej [110,111,116] o (x::r)).bind _;by_cases O:o=64
   ·simp[ej,z,O,Rs.bind]
   ·simp[ej,z,O,Rs.bind]
  have C0:=Ctx.start (Y.congr G);have HC:Hid (∀ X m,Qd (λts=>(ej [110,111,116] o ts).bind λa t1=>(rec 3 (o+1) q t1).bind λkid t2=>.ok ⟨7,0,[],(a:Nat),one kid⟩ t2) (.inr (x::r)) X m->Qd (fX rec [110,111,116] 7 3 o q) (.inr (x::r)) X m):=λX m q=>q.congr λts C=>(G ts C).symm;have q0:=md (o:=o) (x:=x) (r:=r) [110,111,116];have C1:=C0.step q0;have c1:=λ(wx:GE) (hh:QS wx rb all o q (.inr (x::r)))=>rG [110,111,116] (by decide) z hh;rw[show isS [110,111,116] (.inr (x::r))=true by simp[isS,z]] at c0;generalize onw (ej [110,111,116] o) (.inr (x::r))=aa at *;clear C0 q0 Y G z;go_enter Tryz.func51,Tryz.ntmps51;go_wp2_with fail;refine c0.mono ?_;rintro e w1 ⟨rfl,b1⟩;clear c0;have N:=dX.ofBelow (rb:=rb) b1;have h1:=Q.below b1;clear b1 Q;have I:=N.blk Z0 (by have:=K.size;omega);have E:=K.trans N;clear K Z0;obtain⟨i,g,cap,L,hg,hi,ao,ac,hL,hm,d0,d1,-,-,-,⟨-,-,-,t3⟩,hf⟩:=h1.ok;have an:(i:Int)<(L:Int):=by omega
  go_wp2_with fail
  go_quiet (fail)
  have b2:GK w1.heap.size w1 (w1.drewN nq):=bdr (GN _ _) nq;have h2:=h1.below b2;have M:=dX.ofBelow (rb:=rb) b2;generalize w1.drewN nq=w2 at *;clear b2 h1 d0 d1 t3 hf hm;have H:=M.blk I (by have:=E.size;omega);have J:=E.trans M;clear E I;have c3:=c1 _ h2;clear c1;go_wp2_with fail;refine c3.mono ?_;rintro e w3 ⟨rfl,h3,k3⟩;clear c3;have Z3:=k3.blk H (by have:=J.size;omega);have K3:=J.trans k3;clear J H;have c4:=R _ rb all 3 (o+1) (q) aa TI (by omega) (by omega) h3 C1.nou;go_wp2_with fail;refine c4.mono ?_;rintro e w4 ⟨c,f,d,aj,rfl,S4,h4,k4,Q4⟩;have C4:=C1.step Q4;clear c4 Q4 C1;have U:=S4.low (show (w.heap.size+1)<=_ from (by have:=GF Z3;omega));clear S4;have Z4:=k4.blk Z3 (by have:=K3.size;omega);have K4:=K3.trans k4;clear K3 Z3;have P:=h4.alloc (zEx c f d);have D:=K4.alloc (zEx c f d);have T:=(GO w4 (zEx c f d) _ (GF Z4)).trans Z4;have A:(Ib w4 (zEx c f d)).heap[w4.heap.size]?=GB (zEx c f d):=GH w4 _;have p:=U.allocN (zEx c f d);have ap:rb<w4.heap.size:=by have:=K4.size;omega
  clear h4 K4 Z4 U;rw[dU];go_upto_region 7 with fail;generalize (Ib w4 (zEx c f d))=v5 at *;obtain⟨o6,d6,ab,h6⟩:=P.down;have W:dX rb v5 _:=dX.at v5 2 (.int .i64 (Ho (o6-1)));clear P;go_upto_region 8 with fail;generalize v5.setCell ⟨rb,2,GA⟩ (.int .i64 (Ho (o6-1)))=y at *;clear d6 ab;have Z:=W.blk T (by have:=D.size;omega);have K6:=D.trans W;have B:=W.blk A (by omega);have u:=p.keepN W (by omega);clear D T A p;have HX:=HC.out _ _ C4.fin;have NS:Sl (Ib y (.cells [.int .i64 c.k,.int .i64 c.n,stv c.nm,.slice f c.kids.len d,.int .i64 c.a].toArray 25)) (Nw (w.heap.size+1)) (one c) (GB ⟨y.heap.size,0,GA⟩):=Sl.fresh _ 25 (Fc.one (e:=c) d u) (by have:=GF Z;omega);have KF:=K6.alloc (.cells [.int .i64 c.k,.int .i64 c.n,stv c.nm,.slice f c.kids.len d,.int .i64 c.a].toArray 25);have RF:=h6.alloc (.cells [.int .i64 c.k,.int .i64 c.n,stv c.nm,.slice f c.kids.len d,.int .i64 c.a].toArray 25);have ZF:=(GO y (.cells [.int .i64 c.k,.int .i64 c.n,stv c.nm,.slice f c.kids.len d,.int .i64 c.a].toArray 25) _ (GF Z)).trans Z;have KE:=KF.set5 (b:=w.heap.size) (by omega) (.int .i64 7) (.int .i64 0) (stv []) (.slice (GB ⟨y.heap.size,0,GA⟩) 1 1) (.int .i64 x.a);have RE:=RF.set5 (b:=w.heap.size) (by omega) (.int .i64 7) (.int .i64 0) (stv []) (.slice (GB ⟨y.heap.size,0,GA⟩) 1 1) (.int .i64 x.a);have S:=eT (.int .i64 7) (.int .i64 0) (stv []) (.slice (GB ⟨y.heap.size,0,GA⟩) 1 1) (.int .i64 x.a) ZF;have SE:Sl _ (Nw w.heap.size) _ _:=(NS.set5 (b:=w.heap.size) (by omega) (.int .i64 7) (.int .i64 0) (stv []) (.slice (GB ⟨y.heap.size,0,GA⟩) 1 1) (.int .i64 x.a)).low (by omega);obtain⟨z0,z1,z2,z3,z4,zf⟩:=dT ZF;obtain⟨u0,u1,u2,u3,u4,-⟩:=dT S;obtain⟨ai,ah,ag,af,ae,ad⟩:=dT B;have F:=HX;clear HX S ZF KF RF NS K6 Z h6 B u;go_wp2;exact GG (v:=exV ⟨7,0,[],x.a,(one c)⟩ (GB ⟨y.heap.size,0,GA⟩) 1) (by simp[results,Tryz.results51,go_sem,u0,u1,u2,u3,u4,exV];rfl) rfl ⟨_,_,_,_,rfl,SE,RE,KE,F⟩
 ·have G:∀ ts,(.inr (x::r):Sq)=.inr ts->fX rec [110,111,116] 7 3 o q ts=rec 4 o q ts:=λts C=>by
   cases C;show (if x.t=[110,111,116] then _ else _)=_;rw[if_neg z]
  have HN:=Y.congr G;have HC:Hid (∀ X m,Qd (rec 4 o q) (.inr (x::r)) X m->Qd (fX rec [110,111,116] 7 3 o q) (.inr (x::r)) X m):=λX m q=>q.congr λts C=>(G ts C).symm;rw[show isS [110,111,116] (.inr (x::r))=false by simp[isS,z]] at c0;clear G z Y;go_enter Tryz.func51,Tryz.ntmps51;go_wp2_with fail;refine c0.mono ?_;rintro e w1 ⟨rfl,b1⟩;clear c0;have N:=dX.ofBelow (rb:=rb) b1;have h1:=Q.below b1;clear b1 Q;have I:=N.blk Z0 (by have:=K.size;omega);have E:=K.trans N;clear K Z0;have c2:=R _ rb all 4 o q _ TI (by omega) (by omega) h1 HN;go_wp2_with fail;refine c2.mono ?_;rintro e w2 ⟨j,s,l,ak,rfl,S2,h2,M,Q2⟩;have HX:=HC.out _ _ Q2;clear c2 Q2;have V:=S2.low (show (w.heap.size+1)<=_ from (by have:=GF I;omega));clear S2;have H:=M.blk I (by have:=E.size;omega);have J:=E.trans M;clear E I;have KE:=J.set5 (b:=w.heap.size) (by omega) (.int .i64 j.k) (.int .i64 j.n) (stv j.nm) (.slice s j.kids.len l) (.int .i64 j.a);have RE:=h2.set5 (b:=w.heap.size) (by omega) (.int .i64 j.k) (.int .i64 j.n) (stv j.nm) (.slice s j.kids.len l) (.int .i64 j.a);have S:=eT (.int .i64 j.k) (.int .i64 j.n) (stv j.nm) (.slice s j.kids.len l) (.int .i64 j.a) H;have SE:Sl _ (Nw w.heap.size) _ _:=(V.set5 (b:=w.heap.size) (by omega) (.int .i64 j.k) (.int .i64 j.n) (stv j.nm) (.slice s j.kids.len l) (.int .i64 j.a)).low (by omega);obtain⟨z0,z1,z2,z3,z4,zf⟩:=dT H;obtain⟨u0,u1,u2,u3,u4,-⟩:=dT S;have F:=HX;clear S J H h2 V;rw[dU];go_wp2;exact GG (v:=exV j s l) (by simp[results,Tryz.results51,go_sem,u0,u1,u2,u3,u4,exV]) rfl ⟨_,_,_,_,rfl,SE,RE,KE,F⟩
def EG (rec:Rdr):Prop :=
 ∀ (w:GE) (rb:Nat) (all:List Tk) (o q:Nat) (x:Tk) (r:List Tk),(∀ x,x ∈ all->iE x)->QS w rb all o q (.inr (x::r))->Nou (rec 8 o q) (.inr (x::r))->GR GD 105 #[.pointer (GB ⟨rb,0,GA⟩)] w (gq rb all o q w (.inr (x::r)) (rec 8 o q))
theorem BL {rec:Rdr}(R:mI rec)(RA:EG rec){w:GE}{rb o q:Nat}{all:List Tk}{x:Tk}{r:List Tk}(TI:∀ x,x ∈ all->iE x)(h:QS w rb all o q (.inr (x::r)))(Y:Nou (fX rec [45] 6 7 o q) (.inr (x::r))) :
  GR GD 52 #[.pointer (GB ⟨rb,0,GA⟩)] w (gq rb all o q w (.inr (x::r)) (fX rec [45] 6 7 o q)):=by
 have am:=h.lt;have K:dX rb w (w.alloc exZ):=(dX.refl rb w).alloc _;have Z0:(w.alloc exZ).heap[w.heap.size]?=GB exZ:=GH w _;have Q:=h.alloc exZ;have al:w.heap.size<(w.alloc exZ).heap.size:=by simp
 have c0:=tY TI [45] (by decide) (by decide) Q;by_cases z:x.t=[45]
 ·have G:∀ ts,(.inr (x::r):Sq)=.inr ts->fX rec [45] 6 7 o q ts=(λts=>(ej [45] o ts).bind λa t1=>(rec 7 (o+1) q t1).bind λkid t2=>.ok ⟨6,0,[],(a:Nat),one kid⟩ t2) ts:=λts C=>by
   cases C;show (if x.t=[45] then _ else _)=(ej [45] o (x::r)).bind _;by_cases O:o=64
   ·simp[ej,z,O,Rs.bind]
   ·simp[ej,z,O,Rs.bind]
  have C0:=Ctx.start (Y.congr G);have HC:Hid (∀ X m,Qd (λts=>(ej [45] o ts).bind λa t1=>(rec 7 (o+1) q t1).bind λkid t2=>.ok ⟨6,0,[],(a:Nat),one kid⟩ t2) (.inr (x::r)) X m->Qd (fX rec [45] 6 7 o q) (.inr (x::r)) X m):=λX m q=>q.congr λts C=>(G ts C).symm;have q0:=md (o:=o) (x:=x) (r:=r) [45];have C1:=C0.step q0;have c1:=λ(wx:GE) (hh:QS wx rb all o q (.inr (x::r)))=>rG [45] (by decide) z hh;rw[show isS [45] (.inr (x::r))=true by simp[isS,z]] at c0;generalize onw (ej [45] o) (.inr (x::r))=aa at *;clear C0 q0 Y G z;go_enter Tryz.func52,Tryz.ntmps52;go_wp2_with fail;refine c0.mono ?_;rintro e w1 ⟨rfl,b1⟩;clear c0;have N:=dX.ofBelow (rb:=rb) b1;have h1:=Q.below b1;clear b1 Q;have I:=N.blk Z0 (by have:=K.size;omega);have E:=K.trans N;clear K Z0;obtain⟨i,g,cap,L,hg,hi,ao,ac,hL,hm,d0,d1,-,-,-,⟨-,-,-,t3⟩,hf⟩:=h1.ok;have an:(i:Int)<(L:Int):=by omega
  go_wp2_with fail
  go_quiet (fail)
  have b2:GK w1.heap.size w1 (w1.drewN nq):=bdr (GN _ _) nq;have h2:=h1.below b2;have M:=dX.ofBelow (rb:=rb) b2;generalize w1.drewN nq=w2 at *;clear b2 h1 d0 d1 t3 hf hm;have H:=M.blk I (by have:=E.size;omega);have J:=E.trans M;clear E I;have c3:=c1 _ h2;clear c1;go_wp2_with fail;refine c3.mono ?_;rintro e w3 ⟨rfl,h3,k3⟩;clear c3;have Z3:=k3.blk H (by have:=J.size;omega);have K3:=J.trans k3;clear J H;have c4:=R _ rb all 7 (o+1) (q) aa TI (by omega) (by omega) h3 C1.nou;go_wp2_with fail;refine c4.mono ?_;rintro e w4 ⟨c,f,d,aj,rfl,S4,h4,k4,Q4⟩;have C4:=C1.step Q4;clear c4 Q4 C1;have U:=S4.low (show (w.heap.size+1)<=_ from (by have:=GF Z3;omega));clear S4;have Z4:=k4.blk Z3 (by have:=K3.size;omega);have K4:=K3.trans k4;clear K3 Z3;have P:=h4.alloc (zEx c f d);have D:=K4.alloc (zEx c f d);have T:=(GO w4 (zEx c f d) _ (GF Z4)).trans Z4;have A:(Ib w4 (zEx c f d)).heap[w4.heap.size]?=GB (zEx c f d):=GH w4 _;have p:=U.allocN (zEx c f d);have ap:rb<w4.heap.size:=by have:=K4.size;omega
  clear h4 K4 Z4 U;rw[dU];go_upto_region 7 with fail;generalize (Ib w4 (zEx c f d))=v5 at *;obtain⟨o6,d6,ab,h6⟩:=P.down;have W:dX rb v5 _:=dX.at v5 2 (.int .i64 (Ho (o6-1)));clear P;go_upto_region 8 with fail;generalize v5.setCell ⟨rb,2,GA⟩ (.int .i64 (Ho (o6-1)))=y at *;clear d6 ab;have Z:=W.blk T (by have:=D.size;omega);have K6:=D.trans W;have B:=W.blk A (by omega);have u:=p.keepN W (by omega);clear D T A p;have HX:=HC.out _ _ C4.fin;have NS:Sl (Ib y (.cells [.int .i64 c.k,.int .i64 c.n,stv c.nm,.slice f c.kids.len d,.int .i64 c.a].toArray 25)) (Nw (w.heap.size+1)) (one c) (GB ⟨y.heap.size,0,GA⟩):=Sl.fresh _ 25 (Fc.one (e:=c) d u) (by have:=GF Z;omega);have KF:=K6.alloc (.cells [.int .i64 c.k,.int .i64 c.n,stv c.nm,.slice f c.kids.len d,.int .i64 c.a].toArray 25);have RF:=h6.alloc (.cells [.int .i64 c.k,.int .i64 c.n,stv c.nm,.slice f c.kids.len d,.int .i64 c.a].toArray 25);have ZF:=(GO y (.cells [.int .i64 c.k,.int .i64 c.n,stv c.nm,.slice f c.kids.len d,.int .i64 c.a].toArray 25) _ (GF Z)).trans Z;have KE:=KF.set5 (b:=w.heap.size) (by omega) (.int .i64 6) (.int .i64 0) (stv []) (.slice (GB ⟨y.heap.size,0,GA⟩) 1 1) (.int .i64 x.a);have RE:=RF.set5 (b:=w.heap.size) (by omega) (.int .i64 6) (.int .i64 0) (stv []) (.slice (GB ⟨y.heap.size,0,GA⟩) 1 1) (.int .i64 x.a);have S:=eT (.int .i64 6) (.int .i64 0) (stv []) (.slice (GB ⟨y.heap.size,0,GA⟩) 1 1) (.int .i64 x.a) ZF;have SE:Sl _ (Nw w.heap.size) _ _:=(NS.set5 (b:=w.heap.size) (by omega) (.int .i64 6) (.int .i64 0) (stv []) (.slice (GB ⟨y.heap.size,0,GA⟩) 1 1) (.int .i64 x.a)).low (by omega);obtain⟨z0,z1,z2,z3,z4,zf⟩:=dT ZF;obtain⟨u0,u1,u2,u3,u4,-⟩:=dT S;obtain⟨ai,ah,ag,af,ae,ad⟩:=dT B;have F:=HX;clear HX S ZF KF RF NS K6 Z h6 B u;go_wp2;exact GG (v:=exV ⟨6,0,[],x.a,(one c)⟩ (GB ⟨y.heap.size,0,GA⟩) 1) (by simp[results,Tryz.results52,go_sem,u0,u1,u2,u3,u4,exV];rfl) rfl ⟨_,_,_,_,rfl,SE,RE,KE,F⟩
 ·have G:∀ ts,(.inr (x::r):Sq)=.inr ts->fX rec [45] 6 7 o q ts=rec 8 o q ts:=λts C=>by
   cases C;show (if x.t=[45] then _ else _)=_;rw[if_neg z]
  have HN:=Y.congr G;have HC:Hid (∀ X m,Qd (rec 8 o q) (.inr (x::r)) X m->Qd (fX rec [45] 6 7 o q) (.inr (x::r)) X m):=λX m q=>q.congr λts C=>(G ts C).symm;rw[show isS [45] (.inr (x::r))=false by simp[isS,z]] at c0;clear G z Y;go_enter Tryz.func52,Tryz.ntmps52;go_wp2_with fail;refine c0.mono ?_;rintro e w1 ⟨rfl,b1⟩;clear c0;have N:=dX.ofBelow (rb:=rb) b1;have h1:=Q.below b1;clear b1 Q;have I:=N.blk Z0 (by have:=K.size;omega);have E:=K.trans N;clear K Z0;have c2:=RA _ rb all o q _ _ TI h1 HN;go_wp2_with fail;refine c2.mono ?_;rintro e w2 ⟨j,s,l,ak,rfl,S2,h2,M,Q2⟩;have HX:=HC.out _ _ Q2;clear c2 Q2;have V:=S2.low (show (w.heap.size+1)<=_ from (by have:=GF I;omega));clear S2;have H:=M.blk I (by have:=E.size;omega);have J:=E.trans M;clear E I;have KE:=J.set5 (b:=w.heap.size) (by omega) (.int .i64 j.k) (.int .i64 j.n) (stv j.nm) (.slice s j.kids.len l) (.int .i64 j.a);have RE:=h2.set5 (b:=w.heap.size) (by omega) (.int .i64 j.k) (.int .i64 j.n) (stv j.nm) (.slice s j.kids.len l) (.int .i64 j.a);have S:=eT (.int .i64 j.k) (.int .i64 j.n) (stv j.nm) (.slice s j.kids.len l) (.int .i64 j.a) H;have SE:Sl _ (Nw w.heap.size) _ _:=(V.set5 (b:=w.heap.size) (by omega) (.int .i64 j.k) (.int .i64 j.n) (stv j.nm) (.slice s j.kids.len l) (.int .i64 j.a)).low (by omega);obtain⟨z0,z1,z2,z3,z4,zf⟩:=dT H;obtain⟨u0,u1,u2,u3,u4,-⟩:=dT S;have F:=HX;clear S J H h2 V;rw[dU];go_wp2;exact GG (v:=exV j s l) (by simp[results,Tryz.results52,go_sem,u0,u1,u2,u3,u4,exV]) rfl ⟨_,_,_,_,rfl,SE,RE,KE,F⟩
theorem QS.bad {w:GE}{rb o q er a:Nat}{all:List Tk}(h:QS w rb all o q (.inl (er,a))):((er:Int)==0)=false/\w.cell? ⟨rb,4,GA⟩=GB (.int .i64 er)/\(∀ o' b:Nat,QS w rb all o' b (.inl (er,a))):=by
 obtain⟨i,o',b,h1,h2,d⟩:=h;obtain⟨_,_,_,_,_,_,_,_,_,_,_,c4,_,c⟩:=h1.next (GI h2);exact⟨by simp;omega,c4,λ_ _=>⟨i,o',b,h1,h2,d⟩⟩
theorem Qd.bad {α:Type}(f:List Tk->Rs α)(a:Nat × Nat)(X:α):Qd f (.inl a) X (.inl a):=⟨rfl,λts y t b=>by cases b⟩
theorem vS {w:GE}{rb o q row er a:Nat}{all:List Tk}(f:List Tk->Rs Ex)(h:QS w rb all o q (.inl (er,a))) :
  GR GD 28 #[.pointer (GB ⟨rb,0,GA⟩),.int .i64 row] w (gq rb all o q w (.inl (er,a)) f):=by
 have g:=h.lt;have e:=h.alloc exZ;have l:dX rb w (w.alloc exZ):=(dX.refl rb w).alloc _;have k:(w.alloc exZ).heap[w.heap.size]?=GB exZ:=GH w _;obtain⟨j,c4,-⟩:=e.bad;have i:((er:Int) != 0)=true:=by rw[_root_.bne,j];rfl
 have d:Hid (∀ wx b,(QS wx rb all o q b/\dX rb w wx/\b=.inl (er,a))->gq rb all o q w (.inl (er,a)) f (.returned (exV fN GA 0)) wx):=λwx b c=>⟨fN,GA,0,b,rfl,Sl.nil _ _ _,c.1,c.2.1,by rw[c.2.2];exact Qd.bad f _ _⟩;obtain⟨z0,n,z2,z3,z4,m⟩:=dT k;go_enter Tryz.func28,Tryz.ntmps28;go_wp2;exact GG (v:=exV fN GA 0) (by simp[results,J2,go_sem,exV,fN,Fs.len]) rfl (d.out _ _ ⟨e,l,rfl⟩)
theorem QS.e0 {w:GE}{rb o q:Nat}{all:List Tk}{ts:List Tk}(h:QS w rb all o q (.inr ts)):w.cell? ⟨rb,4,GA⟩=GB (.int .i64 0):=by
 match ts,h with
 | [],h=>exact absurd rfl h.le.2.2.ne
 | x::r,h =>
  obtain⟨i,g,cap,L,e,d,b,a,f,c,j,d1,d2,d3,d4,-⟩:=h.ok;exact d4
theorem FM {rec:Rdr}(R:mI rec){w:GE}{rb o q:Nat}{all:List Tk}{x:Tk}{r:List Tk}(H:∀ x,x ∈ all->iE x)(h:QS w rb all o q (.inr (x::r)))(s:Nou (fX rec [110,111,116] 7 3 o q) (.inr (x::r))) :
  GR GD 28 #[.pointer (GB ⟨rb,0,GA⟩),.int .i64 3] w (gq rb all o q w (.inr (x::r)) (fX rec [110,111,116] 7 3 o q)):=by
 have G:=h.lt;have l:dX rb w (w.alloc exZ):=(dX.refl rb w).alloc _;have u:(w.alloc exZ).heap[w.heap.size]?=GB exZ:=GH w _;have i:=h.alloc exZ;have d4:=i.e0;have F:w.heap.size<(w.alloc exZ).heap.size:=by simp
 have c1:=FD R H i s;clear s;go_enter Tryz.func28,Tryz.ntmps28;go_wp2_with fail;refine c1.mono ?_;rintro e w1 ⟨c,f,d,E,rfl,y,h1,p,K⟩;clear c1 i d4;have g:=y.low (show (w.heap.size+1)<=_ from (by omega));clear y;have j:=p.blk u (by have:=l.size;omega);have z:=l.trans p;clear l u;have L:=z.set5 (b:=w.heap.size) (by omega) (.int .i64 c.k) (.int .i64 c.n) (stv c.nm) (.slice f c.kids.len d) (.int .i64 c.a);have J:=h1.set5 (b:=w.heap.size) (by omega) (.int .i64 c.k) (.int .i64 c.n) (stv c.nm) (.slice f c.kids.len d) (.int .i64 c.a);have t:=eT (.int .i64 c.k) (.int .i64 c.n) (stv c.nm) (.slice f c.kids.len d) (.int .i64 c.a) j;have I:Sl _ (Nw w.heap.size) _ _:=(g.set5 (b:=w.heap.size) (by omega) (.int .i64 c.k) (.int .i64 c.n) (stv c.nm) (.slice f c.kids.len d) (.int .i64 c.a)).low (by omega);obtain⟨z0,N,z2,z3,z4,M⟩:=dT j;obtain⟨D,C,B,u3,A,-⟩:=dT t;have m:=K;clear t z j h1 g;rw[dU];go_wp2;exact GG (v:=exV c f d) (by simp[results,J2,go_sem,D,C,B,u3,A,exV]) rfl ⟨_,_,_,_,rfl,I,J,L,m⟩
theorem Gw {rec:Rdr}(R:mI rec)(K:EG rec){w:GE}{rb o q:Nat}{all:List Tk}{x:Tk}{r:List Tk}(H:∀ x,x ∈ all->iE x)(h:QS w rb all o q (.inr (x::r)))(s:Nou (fX rec [45] 6 7 o q) (.inr (x::r))) :
  GR GD 28 #[.pointer (GB ⟨rb,0,GA⟩),.int .i64 7] w (gq rb all o q w (.inr (x::r)) (fX rec [45] 6 7 o q)):=by
 have G:=h.lt;have l:dX rb w (w.alloc exZ):=(dX.refl rb w).alloc _;have u:(w.alloc exZ).heap[w.heap.size]?=GB exZ:=GH w _;have i:=h.alloc exZ;have d4:=i.e0;have F:w.heap.size<(w.alloc exZ).heap.size:=by simp
 have c1:=BL R K H i s;clear s;go_enter Tryz.func28,Tryz.ntmps28;go_wp2_with fail;refine c1.mono ?_;rintro e w1 ⟨c,f,d,E,rfl,y,h1,p,L⟩;clear c1 i d4;have g:=y.low (show (w.heap.size+1)<=_ from (by omega));clear y;have j:=p.blk u (by have:=l.size;omega);have z:=l.trans p;clear l u;have M:=z.set5 (b:=w.heap.size) (by omega) (.int .i64 c.k) (.int .i64 c.n) (stv c.nm) (.slice f c.kids.len d) (.int .i64 c.a);have J:=h1.set5 (b:=w.heap.size) (by omega) (.int .i64 c.k) (.int .i64 c.n) (stv c.nm) (.slice f c.kids.len d) (.int .i64 c.a);have t:=eT (.int .i64 c.k) (.int .i64 c.n) (stv c.nm) (.slice f c.kids.len d) (.int .i64 c.a) j;have I:Sl _ (Nw w.heap.size) _ _:=(g.set5 (b:=w.heap.size) (by omega) (.int .i64 c.k) (.int .i64 c.n) (stv c.nm) (.slice f c.kids.len d) (.int .i64 c.a)).low (by omega);obtain⟨z0,O,z2,z3,z4,N⟩:=dT j;obtain⟨D,C,B,u3,A,-⟩:=dT t;have m:=L;clear t z j h1 g;rw[dU];go_wp2;exact GG (v:=exV c f d) (by simp[results,J2,go_sem,D,C,B,u3,A,exV]) rfl ⟨_,_,_,_,rfl,I,J,M,m⟩
theorem Ctx.eat {β:Type}{F:List Tk->Rs β}{a:Sq}{G H:List Tk->Rs β}{x:Tk}{r:List Tk}(h:Ctx F a G (.inr (x::r)))(e:G (x::r)=H r):Ctx F a H (.inr r):=by
 refine⟨λts c f=>h.1 (x::r) rfl (by cases c;rw[e];exact f),λX b q=>h.2 X b ⟨?_,?_⟩⟩
 ·rw[q.1];simp only[onw];rw[e]
 ·intro ts y t c d;cases c;exact q.2 r y t rfl (by rw[<-e];exact d)
theorem Ctx.congr {β:Type}{F:List Tk->Rs β}{a st:Sq}{G H:List Tk->Rs β}(h:Ctx F a G st)(e:∀ ts,st=.inr ts->G ts=H ts):Ctx F a H st:=⟨h.1.congr e,λX b q=>h.2 X b (q.congr λts c=>(e ts c).symm)⟩
theorem CZ {row:Nat}(c:row=1\/row=2\/row=4\/row=5\/row=6){x:Tk}{r:List Tk}(h:xT x.t row=GA):iQ (sgW row) (.inr (x::r))=-1:=by
 have d:∀ s,s ∈ sgW row->¬x.t=s:=λs a e=>by
  rw[e] at h;rcases c with rfl|rfl|rfl|rfl|rfl<;>simp only[sgW,Iq,Io,or_false] at a
  all_goals (rcases a with rfl|rfl|rfl|rfl)<;>revert h<;>decide
 exact rl λj t f b=>by
  have:=d t (Is b)
  simpa [isS] using this
theorem DC {row:Nat}(m:row=1\/row=2\/row=4\/row=5\/row=6){x:Tk}{r:List Tk}{z:List UInt8 × Nat × Nat × Nat × Nat}(h:xT x.t row=GB z) :
  ∃i k:Nat,iQ (sgW row) (.inr (x::r))=(i:Nat)/\(sgK row)[i]?=GB k/\i<(sgW row).length/\z.2.1=k/\z.2.2.2.2=row+1/\(row<z.2.2.2.1 ↔ row=4)/\x.t≠[]:=by
 have d:z ∈ iJ:=Hi h;have f:=IU h;simp only[Ha,beq_iff_eq] at f;obtain⟨h1,h2⟩:=f;simp only[iJ,Iq,Io,or_false] at d;have a:∀ (L:List (List UInt8)) (i:Nat),L[i]?=GB x.t->(∀ j t,j<i->L[j]?=GB t->t≠x.t)->iQ L (.inr (x::r))=(i:Nat):=λL i l c=>rt l (by simp[isS]) λj t g b=>by
  have:=c j t g b
  simp only[isS,beq_eq_false_iff_ne];exact λe=>this e.symm
 rcases d with rfl|rfl|rfl|rfl|rfl|rfl|rfl|rfl|rfl|rfl|rfl<;>simp only at h1 h2<;>subst h2
 ·exact⟨0,18,a _ 0 (by rw[<-h1];rfl) (by omega),rfl,by decide,rfl,rfl,by decide,by rw[<-h1];decide⟩
 ·exact⟨0,17,a _ 0 (by rw[<-h1];rfl) (by omega),rfl,by decide,rfl,rfl,by decide,by rw[<-h1];decide⟩
 ·exact⟨0,13,a _ 0 (by rw[<-h1];rfl) (by omega),rfl,by decide,rfl,rfl,by decide,by rw[<-h1];decide⟩
 ·exact⟨1,14,a _ 1 (by rw[<-h1];rfl) (λj t c b=>by rw[<-h1];(obtain rfl:j=0:=by omega);simp[sgW] at b;subst b;decide),rfl,by decide,rfl,rfl,by decide,by rw[<-h1];decide⟩
 ·exact⟨3,15,a _ 3 (by rw[<-h1];rfl) (λj t c b=>by rw[<-h1];(obtain rfl|rfl|rfl:j=0\/j=1\/j=2:=by omega)<;>simp[sgW] at b<;>subst b<;>decide),rfl,by decide,rfl,rfl,by decide,by rw[<-h1];decide⟩
 ·exact⟨2,16,a _ 2 (by rw[<-h1];rfl) (λj t c b=>by rw[<-h1];(obtain rfl|rfl:j=0\/j=1:=by omega)<;>simp[sgW] at b<;>subst b<;>decide),rfl,by decide,rfl,rfl,by decide,by rw[<-h1];decide⟩
 ·exact⟨0,8,a _ 0 (by rw[<-h1];rfl) (by omega),rfl,by decide,rfl,rfl,by decide,by rw[<-h1];decide⟩
 ·exact⟨1,9,a _ 1 (by rw[<-h1];rfl) (λj t c b=>by rw[<-h1];(obtain rfl:j=0:=by omega);simp[sgW] at b;subst b;decide),rfl,by decide,rfl,rfl,by decide,by rw[<-h1];decide⟩
 ·exact⟨0,10,a _ 0 (by rw[<-h1];rfl) (by omega),rfl,by decide,rfl,rfl,by decide,by rw[<-h1];decide⟩
 ·exact⟨1,11,a _ 1 (by rw[<-h1];rfl) (λj t c b=>by rw[<-h1];(obtain rfl:j=0:=by omega);simp[sgW] at b;subst b;decide),rfl,by decide,rfl,rfl,by decide,by rw[<-h1];decide⟩
 ·exact⟨2,12,a _ 2 (by rw[<-h1];rfl) (λj t c b=>by rw[<-h1];(obtain rfl|rfl:j=0\/j=1:=by omega)<;>simp[sgW] at b<;>subst b<;>decide),rfl,by decide,rfl,rfl,by decide,by rw[<-h1];decide⟩
theorem CV (L:List (List UInt8))(a:Nat × Nat):iQ L (.inl a)=-1:=rl λ_ _ _ _=>rfl
theorem rS {row:Nat}(a:row=1\/row=2\/row=4\/row=5\/row=6):(∀ s,s ∈ sgW row->s≠[]/\eE s=false)/\(sgW row).length<=4:=by
 rcases a with rfl|rfl|rfl|rfl|rfl<;>exact⟨by decide,by decide⟩
theorem blk5 {w:GE}{b k:Nat}(a:k≠b)(b0 b1 b2 b3 c:GJ):(((((w.setCell ⟨b,0,GA⟩ b0).setCell ⟨b,1,GA⟩ b1).setCell ⟨b,2,GA⟩ b2).setCell ⟨b,3,GA⟩ b3).setCell ⟨b,4,GA⟩ c).heap[k]?=w.heap[k]?:=by
 rw[GP _ ⟨b,4,GA⟩ k _ a,GP _ ⟨b,3,GA⟩ k _ a,GP _ ⟨b,2,GA⟩ k _ a,GP _ ⟨b,1,GA⟩ k _ a,GP _ ⟨b,0,GA⟩ k _ a]
theorem FW {rec:Rdr}(R:mI rec){w:GE}{rb o q m row:Nat}{all:List Tk}{ts:List Tk}(hr:row=1\/row=2\/row=4\/row=5\/row=6)(TI:∀ x,x ∈ all->iE x)(h:QS w rb all o q (.inr ts))(hn:Nou (λts=>(rec (row+1) o q ts).bind λl t=>fR rec m row o q l t) (.inr ts)) :
  GR GD 28 #[.pointer (GB ⟨rb,0,GA⟩),.int .i64 (row:Nat)] w (gq rb all o q w (.inr ts) (λts=>(rec (row+1) o q ts).bind λl t=>fR rec m row o q l t)):=by
 have bc:=h.lt;obtain⟨F,hF⟩:∃F,F=(λts=>(rec (row+1) o q ts).bind λl t=>fR rec m row o q l t):=⟨_,rfl⟩;have aN:=Ctx.start hn;rw[<-hF];have C0:Ctx F (.inr ts) (λts=>(rec (row+1) o q ts).bind λl t=>fR rec m row o q l t) (.inr ts):=by rw[hF];exact aN
 clear hF hn aN;have K0:dX rb w (w.alloc exZ):=(dX.refl rb w).alloc _;have Z0:(w.alloc exZ).heap[w.heap.size]?=GB exZ:=GH w _;have h0:=h.alloc exZ;have d4:=h0.e0;have aW:w.heap.size<(w.alloc exZ).heap.size:=by simp
 have r3:((row:Int)==3)=false:=by rcases hr with rfl|rfl|rfl|rfl|rfl<;>rfl
 have r7:((row:Int)==7)=false:=by rcases hr with rfl|rfl|rfl|rfl|rfl<;>rfl
 have r8:1<=row+1/\row+1<=7:=by omega
 obtain⟨n,ae⟩:∃n,n=(sgW row).length:=⟨_,rfl⟩;have c1:=vJ (w.alloc exZ) row n hr ae;have HN:Hid (n=(sgW row).length):=ae;have HR:Hid (row=1\/row=2\/row=4\/row=5\/row=6):=hr;clear ae hr;go_enter Tryz.func28,Tryz.ntmps28;go_wp2_with fail;refine c1.mono ?_;rintro e w1 ⟨g1,g2,rfl,Q⟩;have k1:=dX.ofBelow (rb:=rb) Q.1.1;have h1:=h0.below Q.1.1;have K:Hid (g1<w1.heap.size/\g2<w1.heap.size/\rb<g1/\rb<g2/\(∀ j s,(sgW row)[j]?=GB s->w1.cell? ⟨g1,j,GA⟩=GB (stv s))/\∀ j k,(sgK row)[j]?=GB k->w1.cell? ⟨g2,j,GA⟩=GB (.int .i64 (k:Nat))):=⟨Q.1.2.2.1,Q.2.2.1,by have:=Q.1.2.1;omega,by have:=Q.2.1;omega,Q.1.2.2.2,Q.2.2.2⟩;have Z1:=k1.blk Z0 (by omega);have K1:=K0.trans k1;have aT:w.heap.size<w1.heap.size:=GF Z1;have c2:=R w1 rb all (row+1) o q _ TI r8.1 r8.2 h1 C0.nou;rw[show ((row+1:Nat):Int)=(row:Int)+1 by omega] at c2;clear c1 Q k1 h0 d4 aW K0 Z0;have ba:(row:Int)<=7:=by omega
 go_wp2_with fail;refine c2.mono ?_;rintro e w2 ⟨M,D,u,aO,rfl,S2,h2,k2,Q2⟩;have C2:=C0.step Q2;have Z2:=k2.blk Z1 (by omega);have K2:=K1.trans k2;have aD:=S2.low (show w.heap.size+1<=w1.heap.size by omega);have aS:w.heap.size<w2.heap.size:=GF Z2;have h3:=h2.alloc (bxE M D u);have K3:=K2.alloc (bxE M D u);have k3:dX rb w1 (w2.alloc (bxE M D u)):=k2.alloc _;have Z3:=(GO w2 (bxE M D u) _ (GF Z2)).trans Z2;have L3:(w2.alloc (bxE M D u)).heap[w2.heap.size]?=GB (bxE M D u):=GH w2 _;have S3:=(aD.toB' (GC _)).allocB (bxE M D u);obtain⟨bl,T⟩:∃bl,bl=w2.heap.size:=⟨_,rfl⟩;rw[<-T] at S3 L3 aS;have aM:Hid (bl=w2.heap.size):=T;have I:g1<(w2.alloc (bxE M D u)).heap.size:=by have:=K.out.1;have:=k3.size;omega
 have c3:=jJ TI (sgW row) (rS HR.out).1 h3 HN.out I (λj s hj=>(k3.cell K.out.1 (by have:=K.out.2.2.1;omega) j).trans (K.out.2.2.2.2.1 j s hj)) (GC n) (by have:=(rS HR.out).2;have:=HN.out;unfold GY;omega);have aV:w1.heap.size<=bl:=by rw[T];exact k2.size
 clear c2 Q2 C0 K1 Z1 S2 aD h1 h2 k2 Z2 K2 T I aT;rw[dU];go_wp2_with fail;refine c3.mono ?_;rintro e w4 ⟨rfl,b4⟩;rw[<-aM.out];clear c3 aM;have k4:=dX.ofBelow (rb:=rb) b4;have h4:=h3.below b4;have Z4:=k4.blk Z3 (by omega);have L4:=k4.blk L3 (by omega);have S4:=S3.keepB k4 (by omega);have K4:=K3.trans k4;have aK:=k3.trans k4;clear k4 b4 k3 h3 Z3 L3 S3 K3;go_wp2_with fail;go_loopg [8] m (λg v wr=>∃st left ao cap,v=.int .i64 (iQ (sgW row) st)/\Ctx F (.inr ts) (λt=>fR rec g row o q left t) st/\wr.heap[bl]?=GB (.cells #[.int .i64 left.k,.int .i64 left.n,stv left.nm,.slice ao left.kids.len cap,.int .i64 left.a] 25 (0,0))/\Sl wr (Nb (w.heap.size+1) bl) left.kids ao/\QS wr rb all o q st/\dX rb w wr/\dX rb w1 wr/\wr.heap[w.heap.size]?=GB (.cells #[.int .i64 0,.int .i64 0,.string ⟨#[]⟩,.slice GA 0 0,.int .i64 0] 25 (0,0)))
 case atStart=>exact⟨aO,M,D,u,rfl,C2,L4,S4,h4,K4,aK,Z4⟩
 case round =>
  clear C2 L4 S4 h4 K4 aK Z4;obtain⟨st,left,ao,cap,rfl,C,L5,S5,h5,K5,aq,Z5⟩:=hrel;have aP:Hid (iQ (sgW row) st=-1/\Qd F (.inr ts) left st)\/∃x r g' z,gk=g'+1/\st=.inr (x::r)/\xT x.t row=GB z:=by
   match st,C,h5 with
   | .inl ea,C,h5=>exact .inl ⟨CV _ _,C.2 _ _ (Qd.bad _ _ _)⟩
   | .inr [],C,h5=>exact absurd rfl h5.le.2.2.ne
   | .inr (x::r),C,h5 =>
    cases gk with
    | zero=>exact absurd rfl (C.1 _ rfl)
    | succ g' =>
     cases Y:xT x.t row with
     | none =>
      refine .inl ⟨CZ HR.out Y,C.2 _ _ ⟨?_,?_⟩⟩
      ·simp only[onw,fR,Y,stp]
      ·intro ts y t hs hy;cases hs;simp only[fR,Y] at hy;exact(Rs.ok_inj hy).1
     | some z=>exact .inr ⟨x,r,g',z,rfl,rfl,Y⟩
  rcases aP with W|⟨x,r,g',z,rfl,rfl,Y⟩
  ·obtain⟨hk,W⟩:=W.out;have HF:Hid (Qd F (.inr ts) left st):=W;rw[hk];have KE:=K5.set5 (b:=w.heap.size) (by omega) (.int .i64 left.k) (.int .i64 left.n) (stv left.nm) (.slice ao left.kids.len cap) (.int .i64 left.a);have RE:=h5.set5 (b:=w.heap.size) (by omega) (.int .i64 left.k) (.int .i64 left.n) (stv left.nm) (.slice ao left.kids.len cap) (.int .i64 left.a);have ZE:=eT (.int .i64 left.k) (.int .i64 left.n) (stv left.nm) (.slice ao left.kids.len cap) (.int .i64 left.a) Z5;have SE:Sl _ (Nw w.heap.size) _ _:=(S5.set5B (b:=w.heap.size) (.inr (by omega)) (.int .i64 left.k) (.int .i64 left.n) (stv left.nm) (.slice ao left.kids.len cap) (.int .i64 left.a)).lowB (by omega);obtain⟨z0,z1,z2,z3,z4,zf⟩:=dT Z5;obtain⟨v0,v1,v2,v3,v4,vf⟩:=dT L5;obtain⟨u0,u1,u2,u3,u4,-⟩:=dT ZE;clear C W hk h5 K5 aq Z5 L5 S5 ZE;go_wp2;exact GG (v:=exV left ao cap) (by simp[results,J2,go_sem,u0,u1,u2,u3,u4,exV]) rfl ⟨_,_,_,_,rfl,SE,RE,KE,HF.out⟩
  ·obtain⟨i,k,hi,hk,ax,av,au,ad,aU⟩:=DC (r:=r) HR.out Y;obtain⟨z1,z2,z3,z4,z5⟩:=z;simp only at av au ad;subst av au;have CE:=C.eat (H:=λt=>(rec (row+1) o q t).bind λright t2=>if row<z4 then .ok ⟨(z2:Nat),0,[],x.a,(one left).snoc right⟩ t2 else fR rec g' row o q ⟨(z2:Nat),0,[],x.a,(one left).snoc right⟩ t2) (by simp only[fR,Y]);rw[hi];have HK:Hid ((sgK row)[i]?=GB z2):=hk;have H4:Hid (row<z4 ↔ row=4):=ad;obtain⟨i2,g,a5,L,hg,bh,bj,a2,hL,hm,d0,d1,-,-,d4,⟨-,-,-,t3⟩,hf⟩:=h5.ok;have be:(i2:Int)<(L:Int):=by omega
   have bf:i<4:=by have:=(rS HR.out).2;omega
   have bd:i<n:=by rw[HN.out];exact ax
   have a1:(i:Int)<(n:Int):=by omega
   have hn4:n<=4:=by have:=(rS HR.out).2;have:=HN.out;omega
   clear C Y hi hk ad ax;go_wp2_with fail
   go_quiet (fail)
   have b6:GK wr.heap.size wr (wr.drewN nq):=bdr (GN _ _) nq;have k6:=dX.ofBelow (rb:=rb) b6;have h6:=h5.below b6;generalize wr.drewN nq=w6 at *;have Z6:=k6.blk Z5 (by omega);have L6:=k6.blk L5 (by omega);have S6:=S5.keepB k6 (by omega);have K6:=K5.trans k6;have aJ:=aq.trans k6;clear b6 k6 h5 Z5 L5 S5 K5 aq d0 d1 d4 t3 hf hm;obtain⟨i3,g3,a4,L4,bi,bg,a3,aZ,bk,aY,-,d1,-,-,-,-,hf⟩:=h6.ok;have h7:=h6.over (.inl aU) d1;have k7:=dX.at (rb:=rb) w6 1 (.int .i64 ((i3:Int)+1));go_upto_region 13 with fail;generalize w6.setCell ⟨rb,1,GA⟩ (.int .i64 ((i3:Int)+1))=w7 at *;have Z7:=k7.blk Z6 (by omega);have L7:=k7.blk L6 (by omega);have S7:=S6.keepB k7 (by omega);have K7:=K6.trans k7;have aI:=aJ.trans k7;clear k7 h6 Z6 L6 S6 K6 aJ d1 hf aY;have c8:=R w7 rb all (row+1) o q _ TI r8.1 r8.2 h7 CE.nou;rw[show ((row+1:Nat):Int)=(row:Int)+1 by omega] at c8;have aw:bl<w7.heap.size:=GF L7;go_wp2_with fail;refine c8.mono ?_;rintro e X ⟨f,B,p,O,rfl,S8,h8,k8,Q8⟩;have C8:=CE.step Q8;have aB:=S8.toB (n:=w.heap.size+1) (bl:=bl) (by omega) aw;have Z8:=k8.blk Z7 (by omega);have L8:=k8.blk L7 (by omega);have aC:=S7.keepB k8 (by omega);have K8:=K7.trans k8;have aH:=aI.trans k8;have aR:bl<X.heap.size:=GF L8;clear c8 Q8 CE S8 k8 h7 Z7 L7 S7 K7 aI aw;have h9:=h8.alloc (bxE f B p);have K9:=K8.alloc (bxE f B p);have V:=aH.alloc (bxE f B p);have Z9:=(GO X (bxE f B p) _ (GF Z8)).trans Z8;have L9:=(GO X (bxE f B p) _ (GF L8)).trans L8;have Y9:(X.alloc (bxE f B p)).heap[X.heap.size]?=GB (bxE f B p):=GH X _;have al:=aC.allocB (bxE f B p);have ak:=aB.allocB (bxE f B p);rw[dU];go_upto_region 14 with fail;generalize X.alloc (bxE f B p)=N at *;generalize X.heap.size=bb at *;have ck:=(V.cell K.out.2.1 (by have:=K.out.2.2.2.1;omega) i).trans (K.out.2.2.2.2.2 i z2 HK.out);obtain⟨v0,v1,v2,v3,v4,vf⟩:=dT L9;obtain⟨y0,y1,y2,y3,y4,yf⟩:=dT Y9;have Z:bl<N.heap.size:=GF L9;have ai:=λ(wx:GE) (hx:wx.heap=N.heap)=>FS (w:=wx) (P:=Nb (w.heap.size+1) bl) z2 (x.a:Nat) (a:=left) (b:=f) (aoa:=ao) (aob:=B) (ca:=cap) (cb:=p) (al.mono (λj _ _=>by rw[hx]) (by rw[hx];exact GC _) (λ_ h _=>h)) (ak.mono (λj _ _=>by rw[hx]) (by rw[hx];exact GC _) (λ_ h _=>h)) (by rw[hx];exact⟨by omega,by omega⟩);unfold exV at ai;have ac:=GL ai;clear ai aC aB h8 K8 aH Z8 L8;have ay:bl<N.drew.heap.size:=Z;have aF:N.drew.heap[bl]?=GB (bxE left ao cap):=L9;go_cut [75] (λv wx=>∃d c,wx.heap[bl]?=GB (.cells #[.int .i64 (z2:Nat),.int .i64 0,stv [],.slice d ((one left).snoc f).len c,.int .i64 (x.a:Nat)] 25 (0,0))/\Sl wx (Nb (w.heap.size+1) bl) ((one left).snoc f) d/\QS wx rb all o q O/\dX rb w wx/\dX rb w1 wx/\wx.heap[w.heap.size]?=GB (.cells #[.int .i64 0,.int .i64 0,.string ⟨#[]⟩,.slice GA 0 0,.int .i64 0] 25 (0,0)))
   case first =>
    have HH:Hid (∀ A d c,Sl A (Nb (w.heap.size+1) bl) ((one left).snoc f) d->GK N.drew.heap.size N.drew A->∃aa ah,(((((A.setCell ⟨bl,0,GA⟩ (.int .i64 (z2:Nat))).setCell ⟨bl,1,GA⟩ (.int .i64 0)).setCell ⟨bl,2,GA⟩ (stv [])).setCell ⟨bl,3,GA⟩ (.slice d ((one left).snoc f).len c)).setCell ⟨bl,4,GA⟩ (.int .i64 (x.a:Nat))).heap[bl]?=GB (.cells #[.int .i64 (z2:Nat),.int .i64 0,stv [],.slice aa ((one left).snoc f).len ah,.int .i64 (x.a:Nat)] 25 (0,0))/\Sl (((((A.setCell ⟨bl,0,GA⟩ (.int .i64 (z2:Nat))).setCell ⟨bl,1,GA⟩ (.int .i64 0)).setCell ⟨bl,2,GA⟩ (stv [])).setCell ⟨bl,3,GA⟩ (.slice d ((one left).snoc f).len c)).setCell ⟨bl,4,GA⟩ (.int .i64 (x.a:Nat))) (Nb (w.heap.size+1) bl) ((one left).snoc f) aa/\QS (((((A.setCell ⟨bl,0,GA⟩ (.int .i64 (z2:Nat))).setCell ⟨bl,1,GA⟩ (.int .i64 0)).setCell ⟨bl,2,GA⟩ (stv [])).setCell ⟨bl,3,GA⟩ (.slice d ((one left).snoc f).len c)).setCell ⟨bl,4,GA⟩ (.int .i64 (x.a:Nat))) rb all o q O/\dX rb w (((((A.setCell ⟨bl,0,GA⟩ (.int .i64 (z2:Nat))).setCell ⟨bl,1,GA⟩ (.int .i64 0)).setCell ⟨bl,2,GA⟩ (stv [])).setCell ⟨bl,3,GA⟩ (.slice d ((one left).snoc f).len c)).setCell ⟨bl,4,GA⟩ (.int .i64 (x.a:Nat)))/\dX rb w1 (((((A.setCell ⟨bl,0,GA⟩ (.int .i64 (z2:Nat))).setCell ⟨bl,1,GA⟩ (.int .i64 0)).setCell ⟨bl,2,GA⟩ (stv [])).setCell ⟨bl,3,GA⟩ (.slice d ((one left).snoc f).len c)).setCell ⟨bl,4,GA⟩ (.int .i64 (x.a:Nat)))/\(((((A.setCell ⟨bl,0,GA⟩ (.int .i64 (z2:Nat))).setCell ⟨bl,1,GA⟩ (.int .i64 0)).setCell ⟨bl,2,GA⟩ (stv [])).setCell ⟨bl,3,GA⟩ (.slice d ((one left).snoc f).len c)).setCell ⟨bl,4,GA⟩ (.int .i64 (x.a:Nat))).heap[w.heap.size]?=GB (.cells #[.int .i64 0,.int .i64 0,.string ⟨#[]⟩,.slice GA 0 0,.int .i64 0] 25 (0,0))):=λA d c an J=>by
     have S:dX rb N A:=(dX.refl rb N).drew.trans (dX.ofBelow J);have hq:=(h9.below (GN _ _).drew).below J;have hl:=(S.blk L9 (by omega));have aQ:=(S.blk Z9 (by omega));exact⟨d,c,eT (.int .i64 (z2:Nat)) (.int .i64 0) (stv []) (.slice d ((one left).snoc f).len c) (.int .i64 (x.a:Nat)) hl,an.set5B (b:=bl) (.inl rfl) (.int .i64 (z2:Nat)) (.int .i64 0) (stv []) (.slice d ((one left).snoc f).len c) (.int .i64 (x.a:Nat)),hq.set5 (b:=bl) (by omega) (.int .i64 (z2:Nat)) (.int .i64 0) (stv []) (.slice d ((one left).snoc f).len c) (.int .i64 (x.a:Nat)),(K9.trans S).set5 (b:=bl) (by omega) (.int .i64 (z2:Nat)) (.int .i64 0) (stv []) (.slice d ((one left).snoc f).len c) (.int .i64 (x.a:Nat)),(V.trans S).set5 (b:=bl) aV (.int .i64 (z2:Nat)) (.int .i64 0) (stv []) (.slice d ((one left).snoc f).len c) (.int .i64 (x.a:Nat)),(blk5 (by omega) (.int .i64 (z2:Nat)) (.int .i64 0) (stv []) (.slice d ((one left).snoc f).len c) (.int .i64 (x.a:Nat))).trans aQ⟩
    clear h9 K9 V Z9 L9 Y9 al ak;go_region_with ((go_at_call 55;refine(ac.out N.drew rfl).mono ?_;rintro e A ⟨d,c,rfl,an,J⟩;have a0:=(J.block bl ay).trans aF;have FX:=HH.out _ _ c an J;obtain⟨q0,q1,q2,q3,q4,qf⟩:=dT a0))
    all_goals
     go_wp2;go_meet;exact FX
   case rest =>
   obtain⟨d,c,aG,aE,ag,aL,E,aA⟩:=hcut;clear h9 K9 V Z9 L9 Y9 al ak ac ck v0 v1 v2 v3 v4 vf y0 y1 y2 y3 y4 yf ay aF Z aR;have I:g1<wc.heap.size:=by have:=K.out.1;have:=E.size;omega
   have az:=jJ TI (sgW row) (rS HR.out).1 ag HN.out I (λj s hj=>(E.cell K.out.1 (by have:=K.out.2.2.1;omega) j).trans (K.out.2.2.2.2.1 j s hj)) (GC n) (by unfold GY;omega);go_wp2_with fail;refine az.mono ?_;rintro e a9 ⟨rfl,aj⟩;have G:=dX.ofBelow (rb:=rb) aj;have af:=ag.below aj;have U:=G.blk aA (by omega);have ap:=G.blk aG (by omega);have am:=aE.keepB G (by omega);have ar:=aL.trans G;have ab:=E.trans G;clear az aj G ag aA aG aE aL E I;by_cases h4:row=4
   ·have C9:=(C8.congr (H:=λt2=>.ok ⟨(z2:Nat),0,[],x.a,(one left).snoc f⟩ t2) (λt _=>if_pos (H4.out.2 h4))).fin;have HF:Hid (Qd F (.inr ts) ⟨(z2:Nat),0,[],x.a,(one left).snoc f⟩ O):=C9;have aX:((row:Int)==4)=true:=by rw[h4];rfl
    have KE:=ar.set5 (b:=w.heap.size) (by omega) (.int .i64 (z2:Nat)) (.int .i64 0) (stv []) (.slice d ((one left).snoc f).len c) (.int .i64 (x.a:Nat));have RE:=af.set5 (b:=w.heap.size) (by omega) (.int .i64 (z2:Nat)) (.int .i64 0) (stv []) (.slice d ((one left).snoc f).len c) (.int .i64 (x.a:Nat));have ZE:=eT (.int .i64 (z2:Nat)) (.int .i64 0) (stv []) (.slice d ((one left).snoc f).len c) (.int .i64 (x.a:Nat)) U;have SE:Sl _ (Nw w.heap.size) _ _:=(am.set5B (b:=w.heap.size) (.inr (by omega)) (.int .i64 (z2:Nat)) (.int .i64 0) (stv []) (.slice d ((one left).snoc f).len c) (.int .i64 (x.a:Nat))).lowB (by omega);obtain⟨z0,z1,a8,a7,a6,zf⟩:=dT U;obtain⟨v0,v1,v2,v3,v4,vf⟩:=dT ap;obtain⟨u0,u1,u2,u3,u4,-⟩:=dT ZE;clear C8 C9 h4 af ar ab U ap am ZE;go_wp2;exact GG (v:=exV ⟨(z2:Nat),0,[],x.a,(one left).snoc f⟩ d c) (by simp[results,J2,go_sem,u0,u1,u2,u3,u4,exV]) rfl ⟨_,_,_,_,rfl,SE,RE,KE,HF.out⟩
   ·have C9:=C8.congr (H:=λt2=>fR rec g' row o q ⟨(z2:Nat),0,[],x.a,(one left).snoc f⟩ t2) (λt _=>if_neg (λe=>h4 (H4.out.1 e)));have aX:((row:Int)==4)=false:=by simp;omega
    clear C8 h4;go_wp2
    go_roundg g'
    case rel=>(try ((repeat apply G0);refine⟨?_,rfl⟩));exact⟨O,⟨(z2:Nat),0,[],x.a,(one left).snoc f⟩,d,c,rfl,C9,ap,am,af,ar,ab,U⟩
    all_goals omega
theorem Rs.bind_assoc {α β γ:Type}(r:Rs α)(f:α->List Tk->Rs β)(g:β->List Tk->Rs γ):(r.bind f).bind g=r.bind λx t=>(f x t).bind g:=by
 cases r using Rs.on with
 | out=>rfl
 | bad e a=>rfl
 | ok x t=>rfl
def ly (rec:Rdr)(b n a o q:Nat)(ts:List Tk):Rs Ex:=(iK rec b o q ts.tail).bind λks t1=>.ok ⟨20,(n:Int)+1,[],(a:Nat),ks⟩ t1
theorem Rq.same {w w2:GE}{rb i:Nat}{o q:Int}{er pl:Nat}{all:List Tk}(h:Rq w rb i o q er pl all)(b:∀ k,k<=rb->w2.heap[k]?=w.heap[k]?):Rq w2 rb i o q er pl all:=by
 obtain⟨g,cap,h1,h2,d,h5⟩:=h;exact⟨g,cap,(b rb (GC _)).trans h1,h2,λj u c=>(GS (a:=⟨g,j,GA⟩) (b g (by omega))).trans (d j u c),h5⟩
theorem QS.same {w w2:GE}{rb o q:Nat}{all:List Tk}{st:Sq}(h:QS w rb all o q st)(b:∀ k,k<=rb->w2.heap[k]?=w.heap[k]?):QS w2 rb all o q st:=by
 match st,h with
 | .inl (er,a),⟨i,o',c,h1,h2⟩=>exact⟨i,o',c,h1.same b,h2⟩
 | .inr ts,⟨i,pl,h1,h2⟩=>exact⟨i,pl,h1.same b,h2⟩
theorem QS.step1 {w w2:GE}{a:Nat->Nat}{rb g o q:Nat}{all:List Tk}{st:Sq}(h:QS w rb all o q st)(s:dQ (λx=>x=1) w (mT g) w2 a)(c:rb<g):QS w2 rb all o q st:=h.same λk b=>s.block k (by have:=h.lt;omega) (by unfold mT;rw[if_neg (by omega)];decide)
theorem Rs.ok_bind {α β:Type}(x:α)(t:List Tk)(f:α->List Tk->Rs β):(Rs.ok x t).bind f=f x t:=rfl
theorem Dl {rec:Rdr}(R:mI rec){w:GE}{rb o q n:Nat}{all:List Tk}{x:Tk}{r:List Tk}(E:∀ x,x ∈ all->iE x)(z:x.t≠[])(af:3<=n/\n<10)(h:QS w rb all o q (.inr (x::r)))(T:Nou (ly rec 1 n x.a o q) (.inr (x::r))) :
  GR GD 163 #[.pointer (GB ⟨rb,0,GA⟩),.int .i64 n,.int .i64 (x.a:Nat)] w (gq rb all o q w (.inr (x::r)) (ly rec 1 n x.a o q)):=by
 have ad:=h.lt;have I:dX rb w (w.alloc exZ):=(dX.refl rb w).alloc _;have Z0:(w.alloc exZ).heap[w.heap.size]?=GB exZ:=GH w _;have B:=h.alloc exZ;have C0:=Ctx.start T;have C1:=C0.eat (H:=(λts=>(ej [40] o ts).bind λ_ t1=>(rec 1 (o+1) q t1).bind λe t2=>(eD [41] t2).bind λ_ t4=>.ok ⟨20,(n:Int)+1,[],(x.a:Nat),one e⟩ t4)) (by simp only[ly,List.tail_cons,iK,jy,Rs.bind_assoc,Rs.ok_bind,JR,Nat.reduceSub]);have ac:w.heap.size<(w.alloc exZ).heap.size:=by simp
 have ae:¬(n:Int)<3:=by omega
 obtain⟨ii,ag,S,Q,P⟩:=ek oG;obtain⟨i,g,cap,L,hg,hi,ah,U,hL,hm,-,d1,-,-,-,-,hf⟩:=B.ok;have h1:=B.over (.inl z) d1;have O:=dX.at (rb:=rb) (w.alloc exZ) 1 (.int .i64 ((i:Int)+1));clear C0 T B hm;go_enter Tryz.func163,Tryz.ntmps163;go_upto_region 1 with fail;generalize w.alloc exZ=v0 at *;go_upto_region 2 with fail;generalize v0.setCell ⟨rb,1,GA⟩ (.int .i64 ((i:Int)+1))=w1 at *;clear d1 hf;have Z:=O.blk Z0 (by have:=I.size;omega);have G:=I.trans O;clear I Z0;have c2:=kV E [40] ⟨by decide,by decide⟩ h1;go_wp2_with fail;refine c2.mono ?_;rintro e w2 ⟨x2,y,rfl,h2,N,Q2⟩;have K:=C1.step Q2;clear c2 Q2 C1;have D:=N.blk Z (by have:=G.size;omega);have F:=G.trans N;clear G Z;have c3:=R _ rb all 1 (o+1) (q) y E (by omega) (by omega) h2 K.nou;go_wp2_with fail;refine c3.mono ?_;rintro e w3 ⟨c,k,d,ab,rfl,S3,W,M,Q3⟩;have C3:=K.step Q3;clear c3 Q3 K;have s:=S3.low (show (w.heap.size+1)<=_ from (by have:=GF D;omega));clear S3;have u:=M.blk D (by have:=F.size;omega);have K3:=F.trans M;clear F D;have f:=Acc.one d s (by have:=GF u;omega);have A:=W.alloc (zEx c k d);have l:=K3.alloc (zEx c k d);have p:=(GO w3 (zEx c k d) _ (GF u)).trans u;clear W K3 u s;rw[dU];have c4:=lh E [41] ⟨by decide,by decide⟩ A;go_wp2_with fail;refine c4.mono ?_;rintro e w4 ⟨x4,aa,rfl,V,k4,Q4⟩;have C4:=C3.step Q4;clear c4 Q4 C3;have C:=k4.blk p (by have:=l.size;omega);have K4:=l.trans k4;have j:=f.keep k4 (by omega);clear l p f;obtain⟨ai,X,m,SF⟩:=j.sl;simp only[Ir] at m;obtain⟨rfl,-,rfl⟩:=m;have KE:=K4.set5 (b:=w.heap.size) (by omega) (.int .i64 20) (.int .i64 ((n:Int)+1)) (stv []) (.slice (GB ⟨w3.heap.size,0,GA⟩) 1 1) (.int .i64 x.a);have RE:=V.set5 (b:=w.heap.size) (by omega) (.int .i64 20) (.int .i64 ((n:Int)+1)) (stv []) (.slice (GB ⟨w3.heap.size,0,GA⟩) 1 1) (.int .i64 x.a);have Y:=eT (.int .i64 20) (.int .i64 ((n:Int)+1)) (stv []) (.slice (GB ⟨w3.heap.size,0,GA⟩) 1 1) (.int .i64 x.a) C;have SE:Sl _ (Nw w.heap.size) _ _:=(SF.set5 (b:=w.heap.size) (by omega) (.int .i64 20) (.int .i64 ((n:Int)+1)) (stv []) (.slice (GB ⟨w3.heap.size,0,GA⟩) 1 1) (.int .i64 x.a)).low (by omega);obtain⟨z0,z1,z2,z3,z4,zf⟩:=dT C;obtain⟨u0,u1,u2,u3,u4,-⟩:=dT Y;have J:=C4.fin;clear Y SF K4 C V j;go_wp2;exact GG (v:=exV ⟨20,((n:Int)+1),[],x.a,(one c)⟩ (GB ⟨w3.heap.size,0,GA⟩) 1) (by simp[results,Tryz.results163,go_sem,u0,u1,u2,u3,u4,exV];try rfl) rfl ⟨_,_,_,_,rfl,SE,RE,KE,J⟩
theorem DF {rec:Rdr}(R:mI rec){w:GE}{rb o q n:Nat}{all:List Tk}{x:Tk}{r:List Tk}(X:∀ x,x ∈ all->iE x)(ag:x.t≠[])(aA:n<3)(h:QS w rb all o q (.inr (x::r)))(hn:Nou (ly rec 2 n x.a o q) (.inr (x::r))) :
  GR GD 163 #[.pointer (GB ⟨rb,0,GA⟩),.int .i64 n,.int .i64 (x.a:Nat)] w (gq rb all o q w (.inr (x::r)) (ly rec 2 n x.a o q)):=by
 have ay:=h.lt;have K0:dX rb w (w.alloc exZ):=(dX.refl rb w).alloc _;have Z0:(w.alloc exZ).heap[w.heap.size]?=GB exZ:=GH w _;have h0:=h.alloc exZ;have C0:=Ctx.start hn;have C1:=C0.eat (H:=(λts=>(ej [40] o ts).bind λ_ t1=>(rec 1 (o+1) q t1).bind λe t2=>(eD [44] t2).bind λ_ ad=>(rec 1 (o+1) q ad).bind λe2 ac=>(eD [41] ac).bind λ_ t4=>.ok ⟨20,(n:Int)+1,[],(x.a:Nat),(one e).snoc e2⟩ t4)) (by simp only[ly,List.tail_cons,iK,jy,Rs.bind_assoc,Rs.ok_bind,JR,Nat.reduceSub]);have ax:w.heap.size<(w.alloc exZ).heap.size:=by simp
 have az:(n:Int)<3:=by omega
 obtain⟨ii,Q,A,z,y⟩:=ek oG;obtain⟨i,g,cap,L,hg,hi,aB,ao,hL,hm,-,d1,-,-,-,-,hf⟩:=h0.ok;have h1:=h0.over (.inl ag) d1;have k1:=dX.at (rb:=rb) (w.alloc exZ) 1 (.int .i64 ((i:Int)+1));clear C0 hn h0 hm;go_enter Tryz.func163,Tryz.ntmps163;go_upto_region 1 with fail;generalize w.alloc exZ=v0 at *;go_upto_region 2 with fail;generalize v0.setCell ⟨rb,1,GA⟩ (.int .i64 ((i:Int)+1))=w1 at *;clear d1 hf;have Z1:=k1.blk Z0 (by have:=K0.size;omega);have K1:=K0.trans k1;clear K0 Z0;have c2:=kV X [40] ⟨by decide,by decide⟩ h1;go_wp2_with fail;refine c2.mono ?_;rintro e w2 ⟨x2,af,rfl,h2,k2,Q2⟩;have C2:=C1.step Q2;clear c2 Q2 C1;have Z2:=k2.blk Z1 (by have:=K1.size;omega);have K2:=K1.trans k2;clear K1 Z1;have c3:=R _ rb all 1 (o+1) (q) af X (by omega) (by omega) h2 C2.nou;go_wp2_with fail;refine c3.mono ?_;rintro e w3 ⟨f,E,l,aw,rfl,S3,h3,k3,Q3⟩;have C3:=C2.step Q3;clear c3 Q3 C2;have Y:=S3.low (show (w.heap.size+1)<=_ from (by have:=GF Z2;omega));clear S3;have Z3:=k3.blk Z2 (by have:=K2.size;omega);have K3:=K2.trans k3;clear K2 Z2;have C:=Acc.one l Y (by have:=GF Z3;omega);have aj:=h3.alloc (zEx f E l);have I:=K3.alloc (zEx f E l);have W:=(GO w3 (zEx f E l) _ (GF Z3)).trans Z3;clear h3 K3 Z3 Y;rw[dU];have c4:=pn X [44] ⟨by decide,by decide⟩ aj;go_wp2_with fail;refine c4.mono ?_;rintro e w4 ⟨x4,ae,rfl,h4,k4,Q4⟩;have C4:=C3.step Q4;clear c4 Q4 C3;have Z4:=k4.blk W (by have:=I.size;omega);have K4:=I.trans k4;have p:=C.keep k4 (by omega);clear I W C;have c5:=R _ rb all 1 (o+1) (q) ae X (by omega) (by omega) h4 C4.nou;go_wp2_with fail;refine c5.mono ?_;have M:w3.heap.size<w4.heap.size:=by obtain⟨g9,c9,x9,P,B9⟩:=p;simp only[Ir,IQ,Addr.mk.injEq,true_and,and_true] at P;obtain⟨e9,-,-⟩:=P;subst e9;exact B9.row.lt rfl
 rintro e J ⟨c,j,d,av,rfl,G,h5,k5,Q5⟩;have C5:=C4.step Q5;clear c5 Q5 C4;have SN:=G;have ak:=G.low (show (w.heap.size+1)<=_ from (by have:=GF Z4;omega));clear G;have Z5:=k5.blk Z4 (by have:=K4.size;omega);have K5:=K4.trans k5;have ab:=p.keep k5 (by omega);clear K4 Z4 p;obtain⟨gA,aq,xs,O,AG⟩:=ab;simp only[Ir,IQ,Addr.mk.injEq,true_and,and_true] at O;obtain⟨ai,-,rfl⟩:=O;subst ai;have s:Bq (Ib J (zEx c j d)) (w.heap.size+1) (one f) w3.heap.size 1 xs:=⟨AG.1,(AG.row.step (gU (λ_=>False) J (mT w3.heap.size) _) id).1,AG.2.2.mono (λi hp hl=>GO J _ i hl) (by simp) (λ_ h _=>h)⟩;have S8:=SN.allocN (zEx c j d);have h8:=h5.alloc (zEx c j d);have K8:=K5.alloc (zEx c j d);have Z8:=(GO J (zEx c j d) _ (GF Z5)).trans Z5;have B:∀ u ∈ [GT .i64 c.k,.int .i64 c.n,stv c.nm,.slice j c.kids.len d,.int .i64 c.a],u.oneCell'=true:=by intro u hu;simp at hu;rcases hu with rfl|rfl|rfl|rfl|rfl<;>rfl
 have b1:1+1<=GY:=by unfold GY;omega
 have b2:(1+1)*64<=140737488355328:=by omega
 have l1:(one f).len=1:=rfl;have AR:=s.row;rw[l1] at AR;clear l1;clear AG h5 K5 Z5 ak SN;rw[dU];go_wp2_with (first|(at_builtin;refine eb rfl (.tmp 24) (.tmp 27) 23 rfl 25 ii _ 5 64 Tryz.underlying23 Q A z y rfl (by decide) (mT w3.heap.size) 1 _ 1 xs rfl AR ⟨J.heap.size,0,GA⟩ 1 1 [.int .i64 c.k,.int .i64 c.n,stv c.nm,.slice j c.kids.len d,.int .i64 c.a] rfl rfl (gm J _ _) B (by decide) b1 b2 ?_)|go_in);intro T U w8 o8 r8 K;have A8:=Acc.push s S8 M (by have:=GF Z8;omega) K r8;have ah:w.heap.size+1<=w3.heap.size:=s.1;have h9:=h8.step1 K (by omega);have K9:=K8.step1 K (by omega);have Z9:=(K.block w.heap.size (GF Z8) (by unfold mT;rw[if_neg (by omega)];decide)).trans Z8;clear s AR S8 h8 K8 Z8 r8 K B b1 b2 Q A z y ii M ah xs;have V:=lh X [41] ⟨by decide,by decide⟩ h9;go_wp2_with fail;refine V.mono ?_;rintro e au ⟨ar,an,rfl,S,D,Z⟩;have am:=C5.step Z;clear V Z C5;have F:=D.blk Z9 (by have:=K9.size;omega);have aa:=K9.trans D;have m:=A8.keep D (by omega);clear K9 Z9 A8;obtain⟨aC,ap,N,SF⟩:=m.sl;simp only[Ir] at N;obtain⟨rfl,-,rfl⟩:=N;have KE:=aa.set5 (b:=w.heap.size) (by omega) (.int .i64 20) (.int .i64 ((n:Int)+1)) (stv []) (.slice (GB ⟨T,0,GA⟩) 2 U) (.int .i64 x.a);have RE:=S.set5 (b:=w.heap.size) (by omega) (.int .i64 20) (.int .i64 ((n:Int)+1)) (stv []) (.slice (GB ⟨T,0,GA⟩) 2 U) (.int .i64 x.a);have ZE:=eT (.int .i64 20) (.int .i64 ((n:Int)+1)) (stv []) (.slice (GB ⟨T,0,GA⟩) 2 U) (.int .i64 x.a) F;have SE:Sl _ (Nw w.heap.size) _ _:=(SF.set5 (b:=w.heap.size) (by omega) (.int .i64 20) (.int .i64 ((n:Int)+1)) (stv []) (.slice (GB ⟨T,0,GA⟩) 2 U) (.int .i64 x.a)).low (by omega);obtain⟨z0,z1,z2,z3,z4,zf⟩:=dT F;obtain⟨u0,u1,u2,u3,u4,-⟩:=dT ZE;have al:=am.fin;clear ZE SF aa F S m;go_wp2;exact GG (v:=exV ⟨20,((n:Int)+1),[],x.a,((one f).snoc c)⟩ (GB ⟨T,0,GA⟩) U) (by simp[results,Tryz.results163,go_sem,u0,u1,u2,u3,u4,exV];try rfl) rfl ⟨_,_,_,_,rfl,SE,RE,KE,al⟩
theorem qQ {β:Type}{F:List Tk->Rs β}{a:Sq}{b:Nat × Nat}{G H:List Tk->Rs β}(h:Ctx F a G (.inl b)):Ctx F a H (.inl b):=h.congr λts c=>by cases c
def hdG (rec:Rdr)(g o q:Nat)(K:Fs->List Tk->Rs Ex)(b:Fs):Bool->List Tk->Rs Ex
 | true=>λt=>K b t
 | false=>λt=>(rec 1 o q t).bind λe t1=>(jW rec g o q (b.snoc e) t1).bind K
theorem yO (e:Ex):Fs.snoc .nil e=one e:=by simp only[Fs.snoc,Fs.app]
theorem xU {rec:Rdr}{m o q:Nat}{K:Fs->List Tk->Rs Ex}{F:List Tk->Rs Ex}{b st:Sq}(h:Ctx F b (λt=>(nf rec m o q t).bind K) st)(a:∀ ts,st=.inr ts->ts≠[]):Ctx F b (hdG rec m o q K .nil (isS [125] st)) st:=by
 match st,h,a with
 | .inl e,h,_=>exact qQ h
 | .inr [],h,a=>exact absurd rfl (a [] rfl)
 | .inr (x::r),h,_ =>
  by_cases c:x.t=[125]
  ·rw[show isS [125] (.inr (x::r))=true by simp[isS,c]];refine h.congr λts d=>?_;cases d;simp only[nf,c,if_true,hdG];rfl
  ·rw[show isS [125] (.inr (x::r))=false by simp[isS,c]];refine h.congr λts d=>?_;cases d;simp only[nf,c,if_false,hdG,Rs.bind_assoc,yO]
theorem Cs {rec:Rdr}{g o q:Nat}{K:Fs->List Tk->Rs Ex}{F:List Tk->Rs Ex}{a st:Sq}{b:Fs}(h:Ctx F a (λt=>(jW rec g o q b t).bind K) st)(c:isS [125] st=true):Ctx F a (hdG rec 0 o q K b true) st:=by
 obtain⟨x,r,rfl,d⟩:=oF c;cases g with
 | zero=>exact absurd rfl (h.1 _ rfl)
 | succ g =>
  refine h.congr λts c=>?_;cases c;simp only[jW,hdG];rw[if_neg (by rw[d];decide)];rfl
theorem xr {rec:Rdr}{g o q:Nat}{K:Fs->List Tk->Rs Ex}{F:List Tk->Rs Ex}{e st:Sq}{b:Fs}(h:Ctx F e (λt=>(jW rec g o q b t).bind K) st)(s:∀ (x:Tk) r,x.t≠[125]->K b (x::r)=.bad 120 x.a)(c:isS [125] st=false)(d:∀ ts,st=.inr ts->ts≠[]) :
  ∃m,Ctx F e (hdG rec m o q K b false) (onw (eD [44]) st)/\(g=m+1\/∃k,onw (eD [44]) st=.inl k):=by
 match st,h,c,d with
 | .inl k,h,_,_=>exact⟨0,qQ h,.inr ⟨k,rfl⟩⟩
 | .inr [],h,_,d=>exact absurd rfl (d [] rfl)
 | .inr (x::r),h,c,_ =>
  have p:¬x.t=[125]:=by simpa [isS] using c
  cases g with
  | zero=>exact absurd rfl (h.1 _ rfl)
  | succ g =>
   by_cases i:x.t=[44]
   ·have l:onw (eD [44]) (.inr (x::r))=.inr r:=by simp[onw,eD,i,stp]
    rw[l];refine⟨g,h.eat ?_,.inl rfl⟩;simp only[jW,i,if_true,hdG,Rs.bind_assoc]
   ·have l:onw (eD [44]) (.inr (x::r))=.inl (120,x.a):=by simp[onw,eD,i,stp]
    rw[l];have n:(jW rec (g+1) o q b (x::r)).bind K=.bad 120 x.a:=by
     simp only[jW,i,if_false];exact s x r p
    refine⟨g,⟨λts c=>(by cases c),λX j q=>h.2 X j ?_⟩,.inl rfl⟩;rw[q.1];exact⟨by simp only[onw];rw[n];rfl,λts y t c f=>by cases c;have f:(jW rec (g+1) o _ b (x::r)).bind K=_:=f;rw[n] at f;cases f⟩
theorem dX.lab {rb:Nat}{w w':GE}{o:Nat->Nat}(k:dX rb w w')(c:o rb=7):dQ (λx=>x=7) w o w' (dR w o 0):=⟨k.os,k.tape,k.output,k.size,λj a=>ed a,λj a b=>k.block j a λe=>b (by rw[e,c])⟩
structure Lb7 (rb n0:Nat)(o:Nat->Nat):Prop where
 r:o rb=7
 z:o n0=3
 b:o (n0+1)=1
 low:∀ k,k<n0->k≠rb->o k=0
theorem Cn {rb n0:Nat}(h:rb<n0):Lb7 rb n0 (λk=>if k=rb then 7 else if k=n0+1 then 1 else if k=n0 then 3 else 0):=by
 refine⟨by simp,?_,?_,λk b a=>?_⟩
 ·show (if n0=rb then 7 else if n0=n0+1 then 1 else if n0=n0 then 3 else 0)=3;rw[if_neg (by omega),if_neg (by omega),if_pos rfl]
 ·show (if n0+1=rb then 7 else if n0+1=n0+1 then 1 else if n0+1=n0 then 3 else 0)=1;rw[if_neg (by omega),if_pos rfl]
 ·show (if k=rb then 7 else if k=n0+1 then 1 else if k=n0 then 3 else 0)=0;rw[if_neg a,if_neg (by omega),if_neg (by omega)]
theorem Lb7.n2 {rb n0:Nat}{o:Nat->Nat}(l:Lb7 rb n0 o):∀ k,k<n0->o k≠2:=λk a=>by
 by_cases e:k=rb
 ·rw[e,l.r];decide
 ·rw[l.low k a e];decide
theorem na.sl2 {w:GE}{o:Nat->Nat}{n0:Nat}{c:Fs}{v:GJ}(h:na w o n0 c v)(p:∀ k,k<n0->o k≠2):∃ao cap,v=.slice ao c.len cap/\Sl w (λb=>n0<=b/\(o b=0\/o b=2)) c ao:=by
 obtain⟨xs,r,f⟩:=h;by_cases m:0<c.len
 ·obtain⟨g,cap,rfl,l,_,_,e,x,_⟩:=r.pos m;have s:=r.len;refine⟨_,cap,rfl,.inr ⟨g,0,xs,rfl,⟨?_,.inr l⟩,e,λj u d=>?_,f.mono (λ_ _ _=>rfl) (GC _) (λ_ i _=>⟨i.1,.inl i.2⟩)⟩⟩
  ·by_cases q:n0<=g
   ·exact q
   ·exact absurd l (p g (by omega))
  ·rw[Hx,x j ?_]
   ·exact d
   ·rw[<-s];by_cases t:j<xs.length
    ·exact t
    ·rw[He (by omega)] at d;cases d
 ·obtain⟨ao,cap,rfl⟩:=r.form;refine⟨ao,cap,rfl,.inl ?_⟩;cases c using Fs.on with
  | nil=>rfl
  | cons k n nm a ks r=>simp[Fs.len] at m
theorem Lb7.step {rb n0:Nat}{I:Nat->Prop}{w w':GE}{o o':Nat->Nat}(h:Lb7 rb n0 o)(s:dQ I w o w' o')(d:rb<n0)(a:n0+1<w.heap.size):Lb7 rb n0 o' :=
 ⟨(s.lab _ (by omega)).trans h.r,(s.lab _ (by omega)).trans h.z,(s.lab _ a).trans h.b,λk c hn2=>(s.lab _ (by omega)).trans (h.low k c hn2)⟩
theorem QS.lab {I:Nat->Prop}{w w':GE}{o' a:Nat->Nat}{rb n0 o q:Nat}{all:List Tk}{st:Sq}(h:QS w rb all o q st)(s:dQ I w o' w' a)(l:Lb7 rb n0 o')(d:rb<n0)(b:¬I 7)(c:¬I 0):QS w' rb all o q st:=h.same λk f=>s.block k (by have:=h.lt;omega) (by
 by_cases e:k=rb
 ·rw[e,l.r];exact b
 ·rw[l.low k (by omega) e];exact c)
theorem dX.lab0 {I:Nat->Prop}{rb n0:Nat}{a w w':GE}{o o':Nat->Nat}(K:dX rb a w)(s:dQ I w o w' o')(l:Lb7 rb n0 o)(d:a.heap.size=n0)(c:¬I 0):dX rb a w' :=
 ⟨s.os.trans K.os,s.tape.trans K.tape,s.output.trans K.output,Hn K.size s.size,λk b hn2=>(s.block k (GM b K.size) (by rw[l.low k (by omega) hn2];exact c)).trans (K.block k b hn2)⟩
theorem yl {w wr w4 f:GE}{rb n0 o q j c5 d:Nat}{A:Int}{all:List Tk}{s:Sq}{h l:Nat->Nat}{va:GJ}{c:Fs}{xs:List GJ}{X:Ex}{e:Option G1}
  (v:n0=w.heap.size) (g:rb<n0) (U:dX rb w wr) (R:wr.heap[n0]?=GB exZ) (J:wr.heap[n0+1]?=GB (.cells #[.int .i64 25,.int .i64 0,.string ⟨#[]⟩,va,.int .i64 A] 25 (0,0))) (C:Lb7 rb n0 h) (fc:Fc wr (N0 n0 h) c xs)
  (k4:dX rb wr.drew w4) (S:Sl w4 (Nw wr.drew.heap.size) X.kids e) (P:QS w4 rb all o q s)
  (m:dQ (λx=>x=2) (w4.alloc (zEx X e d)) (dR wr.drew h 0) f l)
  (K:Row f l 2 25 5 (.slice (GB ⟨j,0,GA⟩) (c.len+1) c5) (c.len+1) (xs++[.int .i64 X.k,.int .i64 X.n,stv X.nm,.slice e X.kids.len d,.int .i64 X.a])) :
  f.heap[n0+1]?=GB (.cells #[.int .i64 25,.int .i64 0,.string ⟨#[]⟩,va,.int .i64 A] 25 (0,0))/\QS (f.setCell ⟨n0+1,3,GA⟩ (.slice (GB ⟨j,0,GA⟩) (c.len+1) c5)) rb all o q s/\dX rb w (f.setCell ⟨n0+1,3,GA⟩ (.slice (GB ⟨j,0,GA⟩) (c.len+1) c5))/\(f.setCell ⟨n0+1,3,GA⟩ (.slice (GB ⟨j,0,GA⟩) (c.len+1) c5)).heap[n0]?=GB exZ/\(f.setCell ⟨n0+1,3,GA⟩ (.slice (GB ⟨j,0,GA⟩) (c.len+1) c5)).heap[n0+1]?=GB (.cells #[.int .i64 25,.int .i64 0,.string ⟨#[]⟩,.slice (GB ⟨j,0,GA⟩) (c.len+1) c5,.int .i64 A] 25 (0,0))/\na (f.setCell ⟨n0+1,3,GA⟩ (.slice (GB ⟨j,0,GA⟩) (c.len+1) c5)) l n0 (c.snoc X) (.slice (GB ⟨j,0,GA⟩) (c.len+1) c5)/\Lb7 rb n0 l:=by
 have I:n0+1<wr.heap.size:=GF J;have u:dQ (λx=>x=7) wr h w4 (dR wr.drew h 0):=(dQ.refl _ wr h).drew.trans (k4.lab C.r);have p:=gU (λ_=>False) w4 (dR wr.drew h 0) (zEx X e d);have F:Blk f l 1 (n0+1) _:=((Blk.step (⟨J,C.b⟩:Blk wr h 1 (n0+1) _) u (by decide)).step p id).step m (by decide);have Q:Blk f l 3 n0 _:=((Blk.step (⟨R,C.z⟩:Blk wr h 3 n0 _) u (by decide)).step p id).step m (by decide);have T:=C.step u g I;have B:n0+1<w4.heap.size:=GM I u.size;have G:=T.step p g B;have y:n0+1<(w4.alloc (zEx X e d)).heap.size:=GM B p.size;have H:=G.step m g y;have E:n0+1<f.heap.size:=GM y m.size;have t:=fj (λx=>x=1) f l ⟨n0+1,3,GA⟩ (.slice (GB ⟨j,0,GA⟩) (c.len+1) c5) F.2;have O:Sl w4 (N0 n0 (dR wr.drew h 0)) X.kids e:=S.mono (λ_ _ _=>rfl) (GC _) (λi D W=>⟨by have D:wr.heap.size<=i:=D;omega,dY D⟩);have V:na f l n0 (c.snoc X) _:=na.push ((fc.lab u (by decide)).lab p id) (O.lab p id) m K;have N:=((P.alloc (zEx X e d)).lab m G g (by decide) (by decide)).lab t H g (by decide) (by decide);have M:dX rb w w4:=U.trans ((dX.refl rb wr).drew.trans k4);have L:=((M.alloc (zEx X e d)).lab0 m G v.symm (by decide)).lab0 t H v.symm (by decide);exact⟨F.1,N,L,(Q.step t (by decide)).1,(F.set 3 _).1,V.step t (by decide) (by decide),H.step t g E⟩
def sD (rec:Rdr)(m o q:Nat)(ts:List Tk):Rs Ex:=(ej [123] o ts).bind λa t1=>(nf rec m (o+1) q t1).bind λks t2=>(eD [125] t2).bind λ_ t3=>.ok ⟨25,0,[],a,ks⟩ t3
theorem By (a:Int)(b:Fs)(x:Tk)(r:List Tk)(h:x.t≠[125]):((eD [125] (x::r)).bind λ_ t3=>(.ok ⟨25,0,[],a,b⟩ t3:Rs Ex))=.bad 120 x.a:=by simp[eD,h,Rs.bind]
theorem QS.nn {w:GE}{rb o q:Nat}{all:List Tk}{st:Sq}(h:QS w rb all o q st):∀ ts,st=.inr ts->ts≠[]:=λts e=>by subst e;exact h.le.2.2.ne
theorem Ef {rec:Rdr}(R:mI rec){w:GE}{rb o q m:Nat}{all:List Tk}{x:Tk}{r:List Tk}(hm:m<=1000000)(S:∀ x,x ∈ all->iE x)(h:QS w rb all o q (.inr (x::r)))(hn:Nou (sD rec m o q) (.inr (x::r))) :
  GR GD 237 #[.pointer (GB ⟨rb,0,GA⟩),.int .i64 (x.a:Nat)] w (gq rb all o q w (.inr (x::r)) (sD rec m o q)):=by
 have ap:=h.lt;have CA:=Ctx.start hn;obtain⟨F,hF⟩:=exq (sD rec m o q);have C0:Ctx F (.inr (x::r)) (λts=>(ej [123] o ts).bind λa t1=>(nf rec m (o+1) q t1).bind λks t2=>(eD [125] t2).bind λ_ t3=>.ok ⟨25,0,[],a,ks⟩ t3) (.inr (x::r)):=by rw[hF];exact CA
 rw[<-hF];clear hF hn CA;obtain⟨K,hK⟩:∃K:Fs->List Tk->Rs Ex,K=λks t2=>(eD [125] t2).bind λ_ t3=>.ok ⟨25,0,[],(x.a:Nat),ks⟩ t3:=⟨_,rfl⟩;have CB:=C0.step (md (o:=o) (x:=x) (r:=r) [123]);have C1:Ctx F (.inr (x::r)) (λt=>(nf rec m (o+1) q t).bind K) (onw (ej [123] o) (.inr (x::r))):=by rw[hK];exact CB
 have HK:Hid (K=λks t2=>(eD [125] t2).bind λ_ t3=>.ok ⟨25,0,[],(x.a:Nat),ks⟩ t3):=hK;obtain⟨ii,al,ad,ac,ab⟩:=ek oG;obtain⟨w0,j⟩:=exq ((w.alloc exZ).alloc (.cells #[.int .i64 25,.int .i64 0,.string ⟨#[]⟩,.slice GA 0 0,.int .i64 (x.a:Nat)] 25));have K0:dX rb w w0:=by rw[j];exact((dX.refl rb w).alloc _).alloc _
 have h0:QS w0 rb all o q (.inr (x::r)):=by rw[j];exact(h.alloc exZ).alloc _
 obtain⟨n0,B⟩:=exq w.heap.size;have Z0:w0.heap[n0]?=GB exZ:=by
  rw[j,B];exact(GO _ _ _ (by simp)).trans (GH w _)
 have O0:w0.heap[n0+1]?=GB (.cells #[.int .i64 25,.int .i64 0,.string ⟨#[]⟩,.slice GA 0 0,.int .i64 (x.a:Nat)] 25 (0,0)):=by
  rw[j,B]
  have:=GH (w.alloc exZ) (.cells #[.int .i64 25,.int .i64 0,.string ⟨#[]⟩,.slice GA 0 0,.int .i64 (x.a:Nat)] 25)
  simpa using this
 have c1:=qG S [123] (by decide) (by decide) h0;generalize onw (ej [123] o) (.inr (x::r))=aj at *;have l:rb<n0:=by omega
 go_enter Tryz.func237,Tryz.ntmps237;go_upto_region 2 with fail;rw[<-j,<-B];have HN:Hid (n0=w.heap.size):=B;clear j h h0 C0 CB hK B;go_wp2_with fail;refine c1.mono ?_;rintro e w1 ⟨rfl,h1,k1⟩;clear c1;have Z1:=k1.blk Z0 (by omega);have O1:=k1.blk O0 (by omega);have K1:=K0.trans k1;have c2:=tY S [125] (by decide) (by decide) h1;clear Z0 O0 K0 k1;go_wp2_with fail;refine c2.mono ?_;rintro e w2 ⟨rfl,b2⟩;clear c2;have k2:=dX.ofBelow (rb:=rb) b2;have h2:=h1.below b2;have Z2:=k2.blk Z1 (by omega);have O2:=k2.blk O1 (by omega);have K2:=K1.trans k2;have C2:=xU C1 h2.nn;clear Z1 O1 K1 k2 b2 C1 h1;obtain⟨oL,L2⟩:∃oL:Nat->Nat,Lb7 rb n0 oL:=⟨_,Cn l⟩;have A2:na w2 oL n0 .nil (.slice GA 0 0):=⟨[],Row.nil _ _ _ _ _,rfl⟩;go_wp2_with fail;go_loopg [6] (m+1) (λg v wr=>∃(H:Bool) (st:Sq) (c:Fs) (oR:Nat->Nat) (va:GJ) (D:Nat),v=.bool H/\Hid (H=true\/(∃ea,st=.inl ea)\/g=D+1)/\Hid (c.len+g<=m+1)/\Ctx F (.inr (x::r)) (hdG rec D (o+1) q K c H) st/\QS wr rb all (o+1) q st/\dX rb w wr/\wr.heap[n0]?=GB (.cells #[.int .i64 0,.int .i64 0,.string ⟨#[]⟩,.slice GA 0 0,.int .i64 0] 25 (0,0))/\wr.heap[n0+1]?=GB (.cells #[.int .i64 25,.int .i64 0,.string ⟨#[]⟩,va,.int .i64 (x.a:Nat)] 25 (0,0))/\na wr oR n0 c va/\Hid (Lb7 rb n0 oR))
 case atStart=>exact⟨_,aj,.nil,oL,.slice GA 0 0,m,rfl,.inr (.inr rfl),by show 0+(m+1)<=m+1;omega,C2,h2,K2,Z2,O2,A2,L2⟩
 case round =>
  clear C2 h2 K2 Z2 O2 A2 L2;obtain⟨H,st,c,oR,va,D,rfl,I,HL,C,p,K3,Z,E,A3,U⟩:=hrel;have ak:(Hid (Ctx F (.inr (x::r)) (λt=>K c t) st)/\(H=true\/H=false/\∃er a,st=.inl (er,a)))\/(H=false/\gk=D+1/\∃y s,st=.inr (y::s)):=by
   cases H with
   | true=>exact .inl ⟨C,.inl rfl⟩
   | false =>
    match st,C,p,I with
    | .inl (er,a),C,p,I=>exact .inl ⟨qQ C,.inr ⟨rfl,er,a,rfl⟩⟩
    | .inr [],C,p,I=>exact absurd rfl (p.nn [] rfl)
    | .inr (y::s),C,p,I =>
     refine .inr ⟨rfl,?_,y,s,rfl⟩;rcases I.out with h|⟨ea,h⟩|h
     ·cases h
     ·cases h
     ·exact h
  clear I;rcases ak with ⟨HC,am⟩|⟨rfl,rfl,y,s,rfl⟩
  ·have J:Ctx F (.inr (x::r)) (λt=>(eD [125] t).bind λ_ t3=>.ok ⟨25,0,[],(x.a:Nat),c⟩ t3) st:=by have h9:=HC.out;rw[HK.out] at h9;exact h9
   clear C HC;rcases am with rfl|⟨rfl,er,a,rfl⟩
   ·have c4:=lh S [125] ⟨by decide,by decide⟩ p;clear p;go_wp2_with fail;refine c4.mono ?_;rintro e w4 ⟨x4,L,rfl,h4,k4,Q4⟩;have G:=(J.step Q4).fin;have M:=k4.lab U.out.r;have A4:=A3.step M (by decide) (by decide);have T:=U.out.step M l (GF E);have P:=k4.blk Z (by omega);have O4:=k4.blk E (by omega);have K4:=K3.trans k4;obtain⟨a1,c1,rfl,SL⟩:=A4.sl2 T.n2;have KE:=K4.set5 (b:=n0) (by have:=HN.out;omega) (.int .i64 25) (.int .i64 0) (stv []) (.slice a1 c.len c1) (.int .i64 (x.a:Nat));have RE:=h4.set5 (b:=n0) (by omega) (.int .i64 25) (.int .i64 0) (stv []) (.slice a1 c.len c1) (.int .i64 (x.a:Nat));have ZE:=eT (.int .i64 25) (.int .i64 0) (stv []) (.slice a1 c.len c1) (.int .i64 (x.a:Nat)) P;have SE:=SL.mono (w':=(((((w4.setCell ⟨n0,0,GA⟩ (.int .i64 25)).setCell ⟨n0,1,GA⟩ (.int .i64 0)).setCell ⟨n0,2,GA⟩ (stv [])).setCell ⟨n0,3,GA⟩ (.slice a1 c.len c1)).setCell ⟨n0,4,GA⟩ (.int .i64 (x.a:Nat)))) (Q:=Nw n0) (λi N hl=>im w4 n0 i (.int .i64 25) (.int .i64 0) (stv []) (.slice a1 c.len c1) (.int .i64 (x.a:Nat)) (λee=>by have h2:=T.z;rw[<-ee] at h2;rcases N.2 with h|h<;>omega)) (by simp) (λi N _=>N.1);have HU:Hid (∃f,f=(((((w4.setCell ⟨n0,0,GA⟩ (.int .i64 25)).setCell ⟨n0,1,GA⟩ (.int .i64 0)).setCell ⟨n0,2,GA⟩ (stv [])).setCell ⟨n0,3,GA⟩ (.slice a1 c.len c1)).setCell ⟨n0,4,GA⟩ (.int .i64 (x.a:Nat)))/\f.cell? ⟨n0,0,GA⟩=GB (.int .i64 25)/\f.cell? ⟨n0,1,GA⟩=GB (.int .i64 0)/\f.cell? ⟨n0,2,GA⟩=GB (stv [])/\f.cell? ⟨n0,3,GA⟩=GB (.slice a1 c.len c1)/\f.cell? ⟨n0,4,GA⟩=GB (.int .i64 (x.a:Nat))/\Sl f (Nw n0) c a1/\dX rb w f/\QS f rb all o q L):=by
     obtain⟨u0,u1,u2,u3,u4,-⟩:=dT ZE;exact⟨_,rfl,u0,u1,u2,u3,u4,SE,KE,RE⟩
    obtain⟨u0,u1,u2,u3,u4,uf⟩:=dT O4;obtain⟨z0,z1,z2,z3,z4,zf⟩:=dT P;have HF:=GL G;clear KE RE ZE SE c4 J Q4 G M A4 T P O4 K4 SL k4 h4 A3 Z E K3;go_wp2;obtain⟨f,A,v0,v1,v2,v3,v4,SZ,KZ,RZ⟩:=HU.out;clear HU;rw[<-A];clear A;exact GG (v:=exV ⟨25,0,[],(x.a:Nat),c⟩ a1 c1) (by simp[results,Tryz.results237,go_sem,v0,v1,v2,v3,v4,exV]) rfl ⟨_,_,_,_,rfl,by rw[<-HN.out];exact SZ,RZ,KZ,HF.out⟩
   ·obtain⟨Y,d4,-⟩:=p.bad;have c4:=lh S [125] ⟨by decide,by decide⟩ p;clear p;go_wp2_with fail;refine c4.mono ?_;rintro e w4 ⟨x4,L,rfl,h4,k4,Q4⟩;have G:=(J.step Q4).fin;have M:=k4.lab U.out.r;have A4:=A3.step M (by decide) (by decide);have T:=U.out.step M l (GF E);clear d4 Y;have P:=k4.blk Z (by omega);have O4:=k4.blk E (by omega);have K4:=K3.trans k4;obtain⟨a1,c1,rfl,SL⟩:=A4.sl2 T.n2;have KE:=K4.set5 (b:=n0) (by have:=HN.out;omega) (.int .i64 25) (.int .i64 0) (stv []) (.slice a1 c.len c1) (.int .i64 (x.a:Nat));have RE:=h4.set5 (b:=n0) (by omega) (.int .i64 25) (.int .i64 0) (stv []) (.slice a1 c.len c1) (.int .i64 (x.a:Nat));have ZE:=eT (.int .i64 25) (.int .i64 0) (stv []) (.slice a1 c.len c1) (.int .i64 (x.a:Nat)) P;have SE:=SL.mono (w':=(((((w4.setCell ⟨n0,0,GA⟩ (.int .i64 25)).setCell ⟨n0,1,GA⟩ (.int .i64 0)).setCell ⟨n0,2,GA⟩ (stv [])).setCell ⟨n0,3,GA⟩ (.slice a1 c.len c1)).setCell ⟨n0,4,GA⟩ (.int .i64 (x.a:Nat)))) (Q:=Nw n0) (λi N hl=>im w4 n0 i (.int .i64 25) (.int .i64 0) (stv []) (.slice a1 c.len c1) (.int .i64 (x.a:Nat)) (λee=>by have h2:=T.z;rw[<-ee] at h2;rcases N.2 with h|h<;>omega)) (by simp) (λi N _=>N.1);have HU:Hid (∃f,f=(((((w4.setCell ⟨n0,0,GA⟩ (.int .i64 25)).setCell ⟨n0,1,GA⟩ (.int .i64 0)).setCell ⟨n0,2,GA⟩ (stv [])).setCell ⟨n0,3,GA⟩ (.slice a1 c.len c1)).setCell ⟨n0,4,GA⟩ (.int .i64 (x.a:Nat)))/\f.cell? ⟨n0,0,GA⟩=GB (.int .i64 25)/\f.cell? ⟨n0,1,GA⟩=GB (.int .i64 0)/\f.cell? ⟨n0,2,GA⟩=GB (stv [])/\f.cell? ⟨n0,3,GA⟩=GB (.slice a1 c.len c1)/\f.cell? ⟨n0,4,GA⟩=GB (.int .i64 (x.a:Nat))/\Sl f (Nw n0) c a1/\dX rb w f/\QS f rb all o q L):=by
     obtain⟨u0,u1,u2,u3,u4,-⟩:=dT ZE;exact⟨_,rfl,u0,u1,u2,u3,u4,SE,KE,RE⟩
    obtain⟨u0,u1,u2,u3,u4,uf⟩:=dT O4;obtain⟨z0,z1,z2,z3,z4,zf⟩:=dT P;have HF:=GL G;clear KE RE ZE SE c4 J Q4 G M A4 T P O4 K4 SL k4 h4 A3 Z E K3;go_wp2;obtain⟨f,A,v0,v1,v2,v3,v4,SZ,KZ,RZ⟩:=HU.out;clear HU;rw[<-A];clear A;exact GG (v:=exV ⟨25,0,[],(x.a:Nat),c⟩ a1 c1) (by simp[results,Tryz.results237,go_sem,v0,v1,v2,v3,v4,exV]) rfl ⟨_,_,_,_,rfl,by rw[<-HN.out];exact SZ,RZ,KZ,HF.out⟩
  ·have e0:=p.e0;have J:=C;clear C;have ao:c.len<=1000000:=by have:=HL.out;omega
   obtain⟨xs,aa,af⟩:=A3;have hd:=p.below (GN _ _).drew;have c5:=R wr.drew rb all 1 (o+1) q _ S (by omega) (by omega) hd J.nou;have b1:c.len+1<=GY:=by unfold GY;omega
   have b2:(c.len+1)*64<=140737488355328:=by omega
   have ah:Hid (∀ X d,Qd (rec 1 (o+1) q) (.inr (y::s)) X d->Ctx F (.inr (x::r)) (λt1=>(jW rec D (o+1) q (c.snoc X) t1).bind K) d):=λX d Q=>J.step Q;go_upto_region 5 with fail;go_cut [28] (λv wx=>∃(X:Ex) (d:Sq) (o5:Nat->Nat) (v5:GJ),Ctx F (.inr (x::r)) (λt1=>(jW rec D (o+1) q (c.snoc X) t1).bind K) d/\QS wx rb all (o+1) q d/\dX rb w wx/\wx.heap[n0]?=GB (.cells #[.int .i64 0,.int .i64 0,.string ⟨#[]⟩,.slice GA 0 0,.int .i64 0] 25 (0,0))/\wx.heap[n0+1]?=GB (.cells #[.int .i64 25,.int .i64 0,.string ⟨#[]⟩,v5,.int .i64 (x.a:Nat)] 25 (0,0))/\na wx o5 n0 (c.snoc X) v5/\Lb7 rb n0 o5)
   case first =>
    obtain⟨p0,p1,p2,p3,p4,pf⟩:=dT E;go_region_law (first|(go_simp;go_at_call 28;refine c5.mono ?_;rintro e w5 ⟨W,an,ag,d,rfl,S5,h5,k5,Q5⟩;have O5:=k5.blk (show wr.drew.heap[n0+1]?=_ from E) (by omega);have aq:n0+1<w5.heap.size:=GF O5;obtain⟨e0,e1,e2,e3,e4,ef⟩:=dT O5;rw[dU])|(refine fT rfl (.tmp 23) (.tmp 26) 23 rfl 25 ii _ 5 64 Tryz.underlying23 al ad ac ab rfl (by decide) (dR wr.drew oR 0) 2 va c.len xs (by simp[JY]) ((aa.step ((dQ.refl (λx=>x=7) wr oR).drew.trans (k5.lab U.out.r)) (by decide)).step (gU (λ_=>False) w5 _ _) id) ⟨w5.heap.size,0,GA⟩ 1 1 [.int .i64 W.k,.int .i64 W.n,stv W.nm,.slice an W.kids.len ag,.int .i64 W.a] (by simp[JY]) rfl (gm w5 _ _) (by intro u hu;simp at hu;rcases hu with rfl|rfl|rfl|rfl|rfl<;>rfl) (by decide) b1 b2 ?_;intro g6 c6 w6 o6 r6 s6;have V:=yl HN.out l K3 Z E U.out af k5 S5 h5 s6 r6;obtain⟨f0,f1,f2,f3,f4,ff⟩:=dT V.1))
    all_goals
     go_wp2;go_meet;exact⟨W,d,o6,_,ah.out _ _ Q5,V.2.1,V.2.2.1,V.2.2.2.1,V.2.2.2.2.1,V.2.2.2.2.2.1,V.2.2.2.2.2.2⟩
   case rest =>
   obtain⟨X,d,o5,v5,C5,h5,K5,Z5,O5,A5,L5⟩:=hcut;clear e0 J aa af hd c5 b1 b2 ah p K3 Z E U xs;have HA:Hid ((c.snoc X).len+D<=m+1):=by show _<=_;rw[Fs.len_snoc];have:=HL.out;omega
   have c6:=tY S [125] (by decide) (by decide) h5;go_wp2_with fail;refine c6.mono ?_;rintro e w6 ⟨rfl,b6⟩;have k6:=dX.ofBelow (rb:=rb) b6;have h6:=h5.below b6;have s6:=k6.lab L5.r;have A6:=A5.step s6 (by decide) (by decide);have L6:=L5.step s6 l (GF O5);have Z6:=k6.blk Z5 (by omega);have O6:=k6.blk O5 (by omega);have K6:=K5.trans k6;have O:=h5.nn;clear c6 b6 k6 s6 A5 L5 Z5 O5 K5 h5;cases Y:isS [125] d with
   | true =>
    have C6:=Cs C5 Y;clear C5 Y O;go_wp2
    go_roundg D
    case rel=>(try ((repeat apply G0);refine⟨?_,rfl⟩));exact⟨true,d,c.snoc X,_,v5,0,rfl,.inl rfl,HA,C6,h6,K6,Z6,O6,A6,L6⟩
    all_goals omega
   | false =>
    obtain⟨g2,C7,ae⟩:=xr C5 (λx r hx=>by rw[HK.out];exact By _ _ _ _ hx) Y O;have c7:=tH S [44] (by decide) (by decide) h6;have I:Hid (false=true\/(∃ea,onw (eD [44]) d=.inl ea)\/D=g2+1):=.inr (ae.elim (λh=>.inr h) (λh=>.inl h));generalize onw (eD [44]) d=ai at *;clear C5 Y O ae h6;go_wp2_with fail;refine c7.mono ?_;rintro e w7 ⟨rfl,h7,k7⟩;have s7:=k7.lab L6.r;have A7:=A6.step s7 (by decide) (by decide);have L7:=L6.step s7 l (GF O6);have Z7:=k7.blk Z6 (by omega);have O7:=k7.blk O6 (by omega);have K7:=K6.trans k7;clear c7 k7 s7 A6 L6 Z6 O6 K6;go_wp2
    go_roundg D
    case rel=>(try ((repeat apply G0);refine⟨?_,rfl⟩));exact⟨false,ai,c.snoc X,_,v5,g2,rfl,I,HA,C7,h7,K7,Z7,O7,A7,L7⟩
    all_goals omega
end Go.Proofs.YtkhgahljbpmfaaaGreatDoor
