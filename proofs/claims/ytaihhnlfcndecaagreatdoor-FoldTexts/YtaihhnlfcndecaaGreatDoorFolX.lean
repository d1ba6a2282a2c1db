import Derived.Test.YtaihhnlfcndecaaGreatDoorFodB
set_option maxRecDepth 100000
set_option maxHeartbeats 8000000
namespace Go.Proofs.YtaihhnlfcndecaaGreatDoor
open Go.ChangeShapes Go.WideShapes Go.ChangeAt Go.RowKit
set_option linter.unusedVariables false
set_option linter.unusedSimpArgs false
theorem quant15_c (e x y:Ex)(ao:Option Addr)(cap:Nat)(P:Nat->Prop)(w:World)(hk:e.kids=Fs.ex x (Fs.ex y .nil))(S:SlcN w P e.kids ao cap) :
  Calls Tryz.prog 73 #[exN e ao cap] w (PostRu w w P (qdE e x y)):=by
 have S2:=S;rw[hk] at S2;obtain⟨b,a0,c0,hao,hb,x0,x1,x2,x3,SX⟩:=SlcN.kidM (d:=.nil) (y:=x) S2;obtain⟨b',a1,c1,hao2,-,y0,y1,y2,y3,SY⟩:=SlcN.kidM (d:=Fs.ex x .nil) (y:=y) (r:=.nil) S2;rw[hao] at hao2;injection hao2 with hao2
 injection hao2 with hao2
 subst hao2;have hl1:(1:Int)<(e.kids.len:Int):=by rw[hk];show (1:Int)<((2:Nat):Int);decide
 subst hao;have hl0:(0:Int)<(e.kids.len:Int):=by rw[hk];show (0:Int)<((2:Nat):Int);decide
 obtain⟨w0,hw0⟩:∃w0,w0=(w.alloc (.cells #[.int .i64 e.k,.int .i64 e.n,stv e.nm,.slice (some ⟨b,0,none⟩) e.kids.len cap] 34)).alloc (.cells #[.int .i64 0,.int .i64 0,.string ⟨#[]⟩,.slice none 0 0] 34):=⟨_,rfl⟩
 have B0:Below w.heap.size w w0:=by rw[hw0];exact((Below.refl _ w).alloc (Nat.le_refl _) _).alloc (by simp) _
 have E0:w0.heap[w.heap.size]?=some (.cells #[.int .i64 e.k,.int .i64 e.n,stv e.nm,.slice (some ⟨b,0,none⟩) e.kids.len cap] 34 (0,0)):=by rw[hw0];exact(Below.heap_alloc _ _ _ (by simp)).trans (heap_alloc_new w _)
 have Z0:w0.heap[w.heap.size+1]?=some (.cells #[.int .i64 0,.int .i64 0,.string ⟨#[]⟩,.slice none 0 0] 34 (0,0)):=by
  rw[hw0]
  have:=heap_alloc_new (w.alloc (.cells #[.int .i64 e.k,.int .i64 e.n,stv e.nm,.slice (some ⟨b,0,none⟩) e.kids.len cap] 34)) (.cells #[.int .i64 0,.int .i64 0,.string ⟨#[]⟩,.slice none 0 0] 34)
  simpa using this
 clear S2 hk;rw[exN_out];go_enter Tryz.func73,Tryz.ntmps73;go_upto_region 1 with fail;rw[<-hw0];obtain⟨bx,hbx⟩:∃bx,bx=w.heap.size:=⟨_,rfl⟩
 rw[<-hbx] at E0 Z0 B0 hb;try rw[<-hbx]
 have HB:Hid (bx=w.heap.size):=hbx;clear hbx hw0;have hlx:(Fs.len (.nil:Fs))=0:=rfl;rw[hlx] at x0 x1 x2 x3;have x0:=(B0.cell (p:=⟨b,0*4,none⟩) hb).trans x0;have x1:=(B0.cell (p:=⟨b,0*4+1,none⟩) hb).trans x1;have x2:=(B0.cell (p:=⟨b,0*4+2,none⟩) hb).trans x2;have x3:=(B0.cell (p:=⟨b,0*4+3,none⟩) hb).trans x3;simp only[Nat.zero_mul,Nat.zero_add,Nat.one_mul,Nat.reduceAdd] at x0 x1 x2 x3;have hly:(Fs.len (Fs.ex x .nil))=1:=rfl;rw[hly] at y0 y1 y2 y3;have y0:=(B0.cell (p:=⟨b,1*4,none⟩) hb).trans y0;have y1:=(B0.cell (p:=⟨b,1*4+1,none⟩) hb).trans y1;have y2:=(B0.cell (p:=⟨b,1*4+2,none⟩) hb).trans y2;have y3:=(B0.cell (p:=⟨b,1*4+3,none⟩) hb).trans y3;simp only[Nat.zero_mul,Nat.zero_add,Nat.one_mul,Nat.reduceAdd] at y0 y1 y2 y3;have hb0:b<w0.heap.size:=Nat.lt_trans hb (lt_of_block E0);obtain⟨p0,p1,p2,p3,pf⟩:=box4 E0;have l1:bx<w0.heap.size:=lt_of_block E0;have l2:bx<w0.heap.size+1:=Nat.lt_succ_of_lt l1;have l3:b<w0.heap.size+1:=Nat.lt_succ_of_lt hb0;go_upto_region 3 with fail;obtain⟨w1,hw1⟩:∃w1,w1=(w0.alloc (.cells #[.int .i64 x.k,.int .i64 x.n,stv x.nm,.slice a0 x.kids.len c0] 34)).alloc (.cells #[.int .i64 y.k,.int .i64 y.n,stv y.nm,.slice a1 y.kids.len c1] 34):=⟨_,rfl⟩
 obtain⟨p,hp⟩:∃p,p=w0.heap.size:=⟨_,rfl⟩
 obtain⟨q,hq⟩:∃q,q=w0.heap.size+1:=⟨_,rfl⟩
 have B1:Below bx w w1:=by rw[hw1];exact(B0.alloc (Nat.le_of_lt l1) _).alloc (by simp;omega) _
 have D1:Below w0.heap.size w0 w1:=by rw[hw1];exact((Below.refl _ w0).alloc (Nat.le_refl _) _).alloc (by simp) _
 have L1:w1.heap[p]?=some (.cells #[.int .i64 x.k,.int .i64 x.n,stv x.nm,.slice a0 x.kids.len c0] 34 (0,0)):=by
  rw[hw1,hp];exact(Below.heap_alloc _ _ _ (by simp)).trans (heap_alloc_new w0 _)
 have R1:w1.heap[q]?=some (.cells #[.int .i64 y.k,.int .i64 y.n,stv y.nm,.slice a1 y.kids.len c1] 34 (0,0)):=by
  rw[hw1,hq]
  have:=heap_alloc_new (w0.alloc (.cells #[.int .i64 x.k,.int .i64 x.n,stv x.nm,.slice a0 x.kids.len c0] 34)) (.cells #[.int .i64 y.k,.int .i64 y.n,stv y.nm,.slice a1 y.kids.len c1] 34)
  rw[show (w0.alloc (.cells #[.int .i64 x.k,.int .i64 x.n,stv x.nm,.slice a0 x.kids.len c0] 34)).heap.size=w0.heap.size+1 by simp] at this;exact this
 have E1:=(D1.block bx l1).trans E0;have Z1:=(D1.block (bx+1) (lt_of_block Z0)).trans Z0;rw[<-hw1,<-hq,<-hp];clear hw1 hp hq D1 B0 E0 Z0 l1 l2 l3 hb0 hb p0 p1 p2 p3 pf x0 x1 x2 x3 y0 y1 y2 y3;have hnn:(((x.k==25)=true/\((x.kids.len:Int)==0)=true)/\(x.k=25/\x.kids.len=0))\/(((x.k==25)=false\/((x.k==25)=true/\((x.kids.len:Int)==0)=false))/\¬(x.k=25/\x.kids.len=0)):=by
  by_cases h1:x.k=25
  ·by_cases h2:x.kids.len=0
   ·exact .inl ⟨⟨by simpa using h1,by simp[h2]⟩,h1,h2⟩
   ·exact .inr ⟨.inr ⟨by simpa using h1,by simp;omega⟩,fun h=>h2 h.2⟩
  ·exact .inr ⟨.inl (by simpa using h1),fun h=>h1 h.1⟩
 have hen:e.n=1\/e.n=2\/e.n=3\/e.n=4\/(e.n≠1/\e.n≠2/\e.n≠3/\e.n≠4):=by omega
 rcases hen with en|en|en|en|en
 focus
  have n1:(e.n==1)=true:=by simp;omega
  have n2:(e.n==2)=false:=by simp;omega
  have n3:(e.n==3)=false:=by simp;omega
  have n4:(e.n==4)=false:=by simp;omega
  rcases hnn with ⟨tn,hn⟩|⟨tn,hn⟩
  ·have hans:Hid (qdE e x y=truE true):=by show _=_;unfold qdE;rw[if_pos ⟨en,.inl hn⟩]
   rcases tn with ⟨tk,tl⟩
   clear en hn;have hc:Calls Tryz.prog _ _ _ (fun xx w'=>xx=.returned (.agg #[.int .i64 2,.int .i64 (1),.string ⟨#[]⟩,.slice none 0 0])/\Below _ _ w'):=truthr_c true w1;obtain⟨p0,p1,p2,p3,pf⟩:=box4 E1;obtain⟨r0,r1,r2,r3,rf⟩:=box4 L1;obtain⟨s0,s1,s2,s3,sf⟩:=box4 R1;go_wp2_with fail;refine hc.mono ?_;rintro u w9 ⟨rfl,b9⟩;have B9:Below bx w w9:=B1.trans (b9.mono (Nat.le_of_lt (lt_of_block E1)));have Z1:=(b9.block _ (lt_of_block Z1)).trans Z1;have HU:=rule_hc 2 (1) Z1 B9;obtain⟨z0,z1,z2,z3,zf⟩:=box4 Z1;clear hc b9 Z1 E1 L1 R1 B9 p0 p1 p2 p3 pf r0 r1 r2 r3 rf s0 s1 s2 s3 sf;go_wp2;obtain⟨wz,hwz,v0,v1,v2,v3,BZ⟩:=HU.out;rw[<-hwz];rw[HB.out] at BZ;exact bodyPost_ret (v:=.agg #[.int .i64 2,.int .i64 (1),.string ⟨#[]⟩,.slice none 0 0]) (by simp[results,Tryz.results73,go_sem,v0,v1,v2,v3]) rfl ⟨none,0,by rw[hans.out];rfl,by rw[hans.out];exact SlcN.nil _ _,BZ⟩
  ·by_cases h22:x.k=22
   ·have t22:(x.k==22)=true:=by simpa using h22
    have t25:(x.k==25)=false:=by simp;omega
    have hc:=isr_c y a1 c1 2 1 w1;try rw[exN_out] at hc
    obtain⟨p0,p1,p2,p3,pf⟩:=box4 E1;obtain⟨r0,r1,r2,r3,rf⟩:=box4 L1;obtain⟨s0,s1,s2,s3,sf⟩:=box4 R1;go_wp2_with fail;refine hc.mono ?_;rintro u w2 ⟨rfl,b2⟩;obtain⟨B2,E1,L1,R1,Z1⟩:=bxs B1 b2 E1 L1 R1 Z1;clear hc b2 p0 p1 p2 p3 pf r0 r1 r2 r3 rf s0 s1 s2 s3 sf B1;cases hy0:isE y 2 1 with
    | true =>
     have hans:Hid (qdE e x y=truE true):=by show _=_;unfold qdE;simp[en,h22,hy0]
     clear en hn h22 hy0;have hc:Calls Tryz.prog _ _ _ (fun xx w'=>xx=.returned (.agg #[.int .i64 2,.int .i64 (1),.string ⟨#[]⟩,.slice none 0 0])/\Below _ _ w'):=truthr_c true w2;obtain⟨p0,p1,p2,p3,pf⟩:=box4 E1;obtain⟨r0,r1,r2,r3,rf⟩:=box4 L1;obtain⟨s0,s1,s2,s3,sf⟩:=box4 R1;go_wp2_with fail;refine hc.mono ?_;rintro u w9 ⟨rfl,b9⟩;have B9:Below bx w w9:=B2.trans (b9.mono (Nat.le_of_lt (lt_of_block E1)));have Z1:=(b9.block _ (lt_of_block Z1)).trans Z1;have HU:=rule_hc 2 (1) Z1 B9;obtain⟨z0,z1,z2,z3,zf⟩:=box4 Z1;clear hc b9 Z1 E1 L1 R1 B9 p0 p1 p2 p3 pf r0 r1 r2 r3 rf s0 s1 s2 s3 sf;go_wp2;obtain⟨wz,hwz,v0,v1,v2,v3,BZ⟩:=HU.out;rw[<-hwz];rw[HB.out] at BZ;exact bodyPost_ret (v:=.agg #[.int .i64 2,.int .i64 (1),.string ⟨#[]⟩,.slice none 0 0]) (by simp[results,Tryz.results73,go_sem,v0,v1,v2,v3]) rfl ⟨none,0,by rw[hans.out];rfl,by rw[hans.out];exact SlcN.nil _ _,BZ⟩
    | false =>
     have hans:Hid (qdE e x y=e):=by show _=_;unfold qdE;simp[en,h22,hy0]
     clear en hn h22 hy0;have HU:=rule_hu e (some ⟨b,0,none⟩) cap Z1 B2;obtain⟨p0,p1,p2,p3,pf⟩:=box4 E1;obtain⟨r0,r1,r2,r3,rf⟩:=box4 L1;obtain⟨s0,s1,s2,s3,sf⟩:=box4 R1;obtain⟨z0,z1,z2,z3,zf⟩:=box4 Z1;clear Z1 E1 L1 R1;go_wp2;obtain⟨wz,hwz,v0,v1,v2,v3,BZ⟩:=HU.out;rw[<-hwz];rw[HB.out] at BZ;exact bodyPost_ret (v:=exN e (some ⟨b,0,none⟩) cap) (by simp[results,Tryz.results73,go_sem,v0,v1,v2,v3,exN]) rfl ⟨(some ⟨b,0,none⟩),cap,by rw[hans.out],by rw[hans.out];exact S,BZ⟩
   ·have t22:(x.k==22)=false:=by simpa using h22
    have hans:Hid (qdE e x y=e):=by
     show _=_;unfold qdE;rw[if_neg (fun h=>by rcases h.2 with h|h;exact hn h;exact h22 h.1),if_neg (fun h=>by rcases h.2 with h|h;exact hn h;exact h22 h.1),if_neg (fun h=>by rcases h.2 with h|h;exact hn h;exact h22 h.1),if_neg (fun h=>hn h.2)]
    clear en hn h22;rcases tn with tk|⟨tk,tl⟩
    all_goals (
     have HU:=rule_hu e (some ⟨b,0,none⟩) cap Z1 B1;obtain⟨p0,p1,p2,p3,pf⟩:=box4 E1;obtain⟨r0,r1,r2,r3,rf⟩:=box4 L1;obtain⟨s0,s1,s2,s3,sf⟩:=box4 R1;obtain⟨z0,z1,z2,z3,zf⟩:=box4 Z1;clear Z1 E1 L1 R1;go_wp2;obtain⟨wz,hwz,v0,v1,v2,v3,BZ⟩:=HU.out;rw[<-hwz];rw[HB.out] at BZ;exact bodyPost_ret (v:=exN e (some ⟨b,0,none⟩) cap) (by simp[results,Tryz.results73,go_sem,v0,v1,v2,v3,exN]) rfl ⟨(some ⟨b,0,none⟩),cap,by rw[hans.out],by rw[hans.out];exact S,BZ⟩)
 focus
  have n1:(e.n==1)=false:=by simp;omega
  have n2:(e.n==2)=true:=by simp;omega
  have n3:(e.n==3)=false:=by simp;omega
  have n4:(e.n==4)=false:=by simp;omega
  rcases hnn with ⟨tn,hn⟩|⟨tn,hn⟩
  ·have hans:Hid (qdE e x y=truE false):=by show _=_;unfold qdE;simp[en,hn]
   rcases tn with ⟨tk,tl⟩
   clear en hn;have hc:Calls Tryz.prog _ _ _ (fun xx w'=>xx=.returned (.agg #[.int .i64 2,.int .i64 (0),.string ⟨#[]⟩,.slice none 0 0])/\Below _ _ w'):=truthr_c false w1;obtain⟨p0,p1,p2,p3,pf⟩:=box4 E1;obtain⟨r0,r1,r2,r3,rf⟩:=box4 L1;obtain⟨s0,s1,s2,s3,sf⟩:=box4 R1;go_wp2_with fail;refine hc.mono ?_;rintro u w9 ⟨rfl,b9⟩;have B9:Below bx w w9:=B1.trans (b9.mono (Nat.le_of_lt (lt_of_block E1)));have Z1:=(b9.block _ (lt_of_block Z1)).trans Z1;have HU:=rule_hc 2 (0) Z1 B9;obtain⟨z0,z1,z2,z3,zf⟩:=box4 Z1;clear hc b9 Z1 E1 L1 R1 B9 p0 p1 p2 p3 pf r0 r1 r2 r3 rf s0 s1 s2 s3 sf;go_wp2;obtain⟨wz,hwz,v0,v1,v2,v3,BZ⟩:=HU.out;rw[<-hwz];rw[HB.out] at BZ;exact bodyPost_ret (v:=.agg #[.int .i64 2,.int .i64 (0),.string ⟨#[]⟩,.slice none 0 0]) (by simp[results,Tryz.results73,go_sem,v0,v1,v2,v3]) rfl ⟨none,0,by rw[hans.out];rfl,by rw[hans.out];exact SlcN.nil _ _,BZ⟩
  ·by_cases h22:x.k=22
   ·have t22:(x.k==22)=true:=by simpa using h22
    have t25:(x.k==25)=false:=by simp;omega
    have hc:=isr_c y a1 c1 2 0 w1;try rw[exN_out] at hc
    obtain⟨p0,p1,p2,p3,pf⟩:=box4 E1;obtain⟨r0,r1,r2,r3,rf⟩:=box4 L1;obtain⟨s0,s1,s2,s3,sf⟩:=box4 R1;go_wp2_with fail;refine hc.mono ?_;rintro u w2 ⟨rfl,b2⟩;obtain⟨B2,E1,L1,R1,Z1⟩:=bxs B1 b2 E1 L1 R1 Z1;clear hc b2 p0 p1 p2 p3 pf r0 r1 r2 r3 rf s0 s1 s2 s3 sf B1;cases hy0:isE y 2 0 with
    | true =>
     have hans:Hid (qdE e x y=truE false):=by show _=_;unfold qdE;simp[en,h22,hy0]
     clear en hn h22 hy0;have hc:Calls Tryz.prog _ _ _ (fun xx w'=>xx=.returned (.agg #[.int .i64 2,.int .i64 (0),.string ⟨#[]⟩,.slice none 0 0])/\Below _ _ w'):=truthr_c false w2;obtain⟨p0,p1,p2,p3,pf⟩:=box4 E1;obtain⟨r0,r1,r2,r3,rf⟩:=box4 L1;obtain⟨s0,s1,s2,s3,sf⟩:=box4 R1;go_wp2_with fail;refine hc.mono ?_;rintro u w9 ⟨rfl,b9⟩;have B9:Below bx w w9:=B2.trans (b9.mono (Nat.le_of_lt (lt_of_block E1)));have Z1:=(b9.block _ (lt_of_block Z1)).trans Z1;have HU:=rule_hc 2 (0) Z1 B9;obtain⟨z0,z1,z2,z3,zf⟩:=box4 Z1;clear hc b9 Z1 E1 L1 R1 B9 p0 p1 p2 p3 pf r0 r1 r2 r3 rf s0 s1 s2 s3 sf;go_wp2;obtain⟨wz,hwz,v0,v1,v2,v3,BZ⟩:=HU.out;rw[<-hwz];rw[HB.out] at BZ;exact bodyPost_ret (v:=.agg #[.int .i64 2,.int .i64 (0),.string ⟨#[]⟩,.slice none 0 0]) (by simp[results,Tryz.results73,go_sem,v0,v1,v2,v3]) rfl ⟨none,0,by rw[hans.out];rfl,by rw[hans.out];exact SlcN.nil _ _,BZ⟩
    | false =>
     have hans:Hid (qdE e x y=e):=by show _=_;unfold qdE;simp[en,h22,hy0]
     clear en hn h22 hy0;have HU:=rule_hu e (some ⟨b,0,none⟩) cap Z1 B2;obtain⟨p0,p1,p2,p3,pf⟩:=box4 E1;obtain⟨r0,r1,r2,r3,rf⟩:=box4 L1;obtain⟨s0,s1,s2,s3,sf⟩:=box4 R1;obtain⟨z0,z1,z2,z3,zf⟩:=box4 Z1;clear Z1 E1 L1 R1;go_wp2;obtain⟨wz,hwz,v0,v1,v2,v3,BZ⟩:=HU.out;rw[<-hwz];rw[HB.out] at BZ;exact bodyPost_ret (v:=exN e (some ⟨b,0,none⟩) cap) (by simp[results,Tryz.results73,go_sem,v0,v1,v2,v3,exN]) rfl ⟨(some ⟨b,0,none⟩),cap,by rw[hans.out],by rw[hans.out];exact S,BZ⟩
   ·have t22:(x.k==22)=false:=by simpa using h22
    have hans:Hid (qdE e x y=e):=by
     show _=_;unfold qdE;rw[if_neg (fun h=>by rcases h.2 with h|h;exact hn h;exact h22 h.1),if_neg (fun h=>by rcases h.2 with h|h;exact hn h;exact h22 h.1),if_neg (fun h=>by rcases h.2 with h|h;exact hn h;exact h22 h.1),if_neg (fun h=>hn h.2)]
    clear en hn h22;rcases tn with tk|⟨tk,tl⟩
    all_goals (
     have HU:=rule_hu e (some ⟨b,0,none⟩) cap Z1 B1;obtain⟨p0,p1,p2,p3,pf⟩:=box4 E1;obtain⟨r0,r1,r2,r3,rf⟩:=box4 L1;obtain⟨s0,s1,s2,s3,sf⟩:=box4 R1;obtain⟨z0,z1,z2,z3,zf⟩:=box4 Z1;clear Z1 E1 L1 R1;go_wp2;obtain⟨wz,hwz,v0,v1,v2,v3,BZ⟩:=HU.out;rw[<-hwz];rw[HB.out] at BZ;exact bodyPost_ret (v:=exN e (some ⟨b,0,none⟩) cap) (by simp[results,Tryz.results73,go_sem,v0,v1,v2,v3,exN]) rfl ⟨(some ⟨b,0,none⟩),cap,by rw[hans.out],by rw[hans.out];exact S,BZ⟩)
 focus
  have n1:(e.n==1)=false:=by simp;omega
  have n2:(e.n==2)=false:=by simp;omega
  have n3:(e.n==3)=true:=by simp;omega
  have n4:(e.n==4)=false:=by simp;omega
  rcases hnn with ⟨tn,hn⟩|⟨tn,hn⟩
  ·have hans:Hid (qdE e x y=numE 0):=by show _=_;unfold qdE;simp[en,hn]
   rcases tn with ⟨tk,tl⟩
   clear en hn;have hc:Calls Tryz.prog _ _ _ (fun xx w'=>xx=.returned (.agg #[.int .i64 1,.int .i64 (0),.string ⟨#[]⟩,.slice none 0 0])/\Below _ _ w'):=number_c 0 w1;obtain⟨p0,p1,p2,p3,pf⟩:=box4 E1;obtain⟨r0,r1,r2,r3,rf⟩:=box4 L1;obtain⟨s0,s1,s2,s3,sf⟩:=box4 R1;go_wp2_with fail;refine hc.mono ?_;rintro u w9 ⟨rfl,b9⟩;have B9:Below bx w w9:=B1.trans (b9.mono (Nat.le_of_lt (lt_of_block E1)));have Z1:=(b9.block _ (lt_of_block Z1)).trans Z1;have HU:=rule_hc 1 (0) Z1 B9;obtain⟨z0,z1,z2,z3,zf⟩:=box4 Z1;clear hc b9 Z1 E1 L1 R1 B9 p0 p1 p2 p3 pf r0 r1 r2 r3 rf s0 s1 s2 s3 sf;go_wp2;obtain⟨wz,hwz,v0,v1,v2,v3,BZ⟩:=HU.out;rw[<-hwz];rw[HB.out] at BZ;exact bodyPost_ret (v:=.agg #[.int .i64 1,.int .i64 (0),.string ⟨#[]⟩,.slice none 0 0]) (by simp[results,Tryz.results73,go_sem,v0,v1,v2,v3]) rfl ⟨none,0,by rw[hans.out];rfl,by rw[hans.out];exact SlcN.nil _ _,BZ⟩
  ·by_cases h22:x.k=22
   ·have t22:(x.k==22)=true:=by simpa using h22
    have t25:(x.k==25)=false:=by simp;omega
    have hc:=isr_c y a1 c1 2 0 w1;try rw[exN_out] at hc
    obtain⟨p0,p1,p2,p3,pf⟩:=box4 E1;obtain⟨r0,r1,r2,r3,rf⟩:=box4 L1;obtain⟨s0,s1,s2,s3,sf⟩:=box4 R1;go_wp2_with fail;refine hc.mono ?_;rintro u w2 ⟨rfl,b2⟩;obtain⟨B2,E1,L1,R1,Z1⟩:=bxs B1 b2 E1 L1 R1 Z1;clear hc b2 p0 p1 p2 p3 pf r0 r1 r2 r3 rf s0 s1 s2 s3 sf B1;cases hy0:isE y 2 0 with
    | true =>
     have hans:Hid (qdE e x y=numE 0):=by show _=_;unfold qdE;simp[en,h22,hy0]
     clear en hn h22 hy0;have hc:Calls Tryz.prog _ _ _ (fun xx w'=>xx=.returned (.agg #[.int .i64 1,.int .i64 (0),.string ⟨#[]⟩,.slice none 0 0])/\Below _ _ w'):=number_c 0 w2;obtain⟨p0,p1,p2,p3,pf⟩:=box4 E1;obtain⟨r0,r1,r2,r3,rf⟩:=box4 L1;obtain⟨s0,s1,s2,s3,sf⟩:=box4 R1;go_wp2_with fail;refine hc.mono ?_;rintro u w9 ⟨rfl,b9⟩;have B9:Below bx w w9:=B2.trans (b9.mono (Nat.le_of_lt (lt_of_block E1)));have Z1:=(b9.block _ (lt_of_block Z1)).trans Z1;have HU:=rule_hc 1 (0) Z1 B9;obtain⟨z0,z1,z2,z3,zf⟩:=box4 Z1;clear hc b9 Z1 E1 L1 R1 B9 p0 p1 p2 p3 pf r0 r1 r2 r3 rf s0 s1 s2 s3 sf;go_wp2;obtain⟨wz,hwz,v0,v1,v2,v3,BZ⟩:=HU.out;rw[<-hwz];rw[HB.out] at BZ;exact bodyPost_ret (v:=.agg #[.int .i64 1,.int .i64 (0),.string ⟨#[]⟩,.slice none 0 0]) (by simp[results,Tryz.results73,go_sem,v0,v1,v2,v3]) rfl ⟨none,0,by rw[hans.out];rfl,by rw[hans.out];exact SlcN.nil _ _,BZ⟩
    | false =>
     have hans:Hid (qdE e x y=e):=by show _=_;unfold qdE;simp[en,h22,hy0]
     clear en hn h22 hy0;have HU:=rule_hu e (some ⟨b,0,none⟩) cap Z1 B2;obtain⟨p0,p1,p2,p3,pf⟩:=box4 E1;obtain⟨r0,r1,r2,r3,rf⟩:=box4 L1;obtain⟨s0,s1,s2,s3,sf⟩:=box4 R1;obtain⟨z0,z1,z2,z3,zf⟩:=box4 Z1;clear Z1 E1 L1 R1;go_wp2;obtain⟨wz,hwz,v0,v1,v2,v3,BZ⟩:=HU.out;rw[<-hwz];rw[HB.out] at BZ;exact bodyPost_ret (v:=exN e (some ⟨b,0,none⟩) cap) (by simp[results,Tryz.results73,go_sem,v0,v1,v2,v3,exN]) rfl ⟨(some ⟨b,0,none⟩),cap,by rw[hans.out],by rw[hans.out];exact S,BZ⟩
   ·have t22:(x.k==22)=false:=by simpa using h22
    have hans:Hid (qdE e x y=e):=by
     show _=_;unfold qdE;rw[if_neg (fun h=>by rcases h.2 with h|h;exact hn h;exact h22 h.1),if_neg (fun h=>by rcases h.2 with h|h;exact hn h;exact h22 h.1),if_neg (fun h=>by rcases h.2 with h|h;exact hn h;exact h22 h.1),if_neg (fun h=>hn h.2)]
    clear en hn h22;rcases tn with tk|⟨tk,tl⟩
    all_goals (
     have HU:=rule_hu e (some ⟨b,0,none⟩) cap Z1 B1;obtain⟨p0,p1,p2,p3,pf⟩:=box4 E1;obtain⟨r0,r1,r2,r3,rf⟩:=box4 L1;obtain⟨s0,s1,s2,s3,sf⟩:=box4 R1;obtain⟨z0,z1,z2,z3,zf⟩:=box4 Z1;clear Z1 E1 L1 R1;go_wp2;obtain⟨wz,hwz,v0,v1,v2,v3,BZ⟩:=HU.out;rw[<-hwz];rw[HB.out] at BZ;exact bodyPost_ret (v:=exN e (some ⟨b,0,none⟩) cap) (by simp[results,Tryz.results73,go_sem,v0,v1,v2,v3,exN]) rfl ⟨(some ⟨b,0,none⟩),cap,by rw[hans.out],by rw[hans.out];exact S,BZ⟩)
 focus
  have n1:(e.n==1)=false:=by simp;omega
  have n2:(e.n==2)=false:=by simp;omega
  have n3:(e.n==3)=false:=by simp;omega
  have n4:(e.n==4)=true:=by simp;omega
  rcases hnn with ⟨tn,hn⟩|⟨tn,hn⟩
  ·have hans:Hid (qdE e x y=numE 0):=by show _=_;unfold qdE;simp[en,hn]
   rcases tn with ⟨tk,tl⟩
   clear en hn;have hc:Calls Tryz.prog _ _ _ (fun xx w'=>xx=.returned (.agg #[.int .i64 1,.int .i64 (0),.string ⟨#[]⟩,.slice none 0 0])/\Below _ _ w'):=number_c 0 w1;obtain⟨p0,p1,p2,p3,pf⟩:=box4 E1;obtain⟨r0,r1,r2,r3,rf⟩:=box4 L1;obtain⟨s0,s1,s2,s3,sf⟩:=box4 R1;go_wp2_with fail;refine hc.mono ?_;rintro u w9 ⟨rfl,b9⟩;have B9:Below bx w w9:=B1.trans (b9.mono (Nat.le_of_lt (lt_of_block E1)));have Z1:=(b9.block _ (lt_of_block Z1)).trans Z1;have HU:=rule_hc 1 (0) Z1 B9;obtain⟨z0,z1,z2,z3,zf⟩:=box4 Z1;clear hc b9 Z1 E1 L1 R1 B9 p0 p1 p2 p3 pf r0 r1 r2 r3 rf s0 s1 s2 s3 sf;go_wp2;obtain⟨wz,hwz,v0,v1,v2,v3,BZ⟩:=HU.out;rw[<-hwz];rw[HB.out] at BZ;exact bodyPost_ret (v:=.agg #[.int .i64 1,.int .i64 (0),.string ⟨#[]⟩,.slice none 0 0]) (by simp[results,Tryz.results73,go_sem,v0,v1,v2,v3]) rfl ⟨none,0,by rw[hans.out];rfl,by rw[hans.out];exact SlcN.nil _ _,BZ⟩
  ·have hans:Hid (qdE e x y=e):=by
    show _=_;unfold qdE;rw[if_neg (fun h=>by omega),if_neg (fun h=>by omega),if_neg (fun h=>by omega),if_neg (fun h=>hn h.2)]
   clear en hn;rcases tn with tk|⟨tk,tl⟩
   all_goals (
    have HU:=rule_hu e (some ⟨b,0,none⟩) cap Z1 B1;obtain⟨p0,p1,p2,p3,pf⟩:=box4 E1;obtain⟨r0,r1,r2,r3,rf⟩:=box4 L1;obtain⟨s0,s1,s2,s3,sf⟩:=box4 R1;obtain⟨z0,z1,z2,z3,zf⟩:=box4 Z1;clear Z1 E1 L1 R1;go_wp2;obtain⟨wz,hwz,v0,v1,v2,v3,BZ⟩:=HU.out;rw[<-hwz];rw[HB.out] at BZ;exact bodyPost_ret (v:=exN e (some ⟨b,0,none⟩) cap) (by simp[results,Tryz.results73,go_sem,v0,v1,v2,v3,exN]) rfl ⟨(some ⟨b,0,none⟩),cap,by rw[hans.out],by rw[hans.out];exact S,BZ⟩)
 focus
  have n1:(e.n==1)=false:=by simp;omega
  have n2:(e.n==2)=false:=by simp;omega
  have n3:(e.n==3)=false:=by simp;omega
  have n4:(e.n==4)=false:=by simp;omega
  have hans:Hid (qdE e x y=e):=by
   show _=_;unfold qdE;rw[if_neg (fun h=>by omega),if_neg (fun h=>by omega),if_neg (fun h=>by omega),if_neg (fun h=>by omega)]
  have hx22:(x.k==22)=true\/(x.k==22)=false:=by cases h:(x.k==22);exact .inr rfl;exact .inl rfl
  clear en;rcases hnn with ⟨⟨tk,tl⟩,-⟩|⟨tk|⟨tk,tl⟩,-⟩
  all_goals (
   rcases hx22 with t22|t22
   all_goals (
    have HU:=rule_hu e (some ⟨b,0,none⟩) cap Z1 B1;obtain⟨p0,p1,p2,p3,pf⟩:=box4 E1;obtain⟨r0,r1,r2,r3,rf⟩:=box4 L1;obtain⟨s0,s1,s2,s3,sf⟩:=box4 R1;obtain⟨z0,z1,z2,z3,zf⟩:=box4 Z1;clear Z1 E1 L1 R1;go_wp2;obtain⟨wz,hwz,v0,v1,v2,v3,BZ⟩:=HU.out;rw[<-hwz];rw[HB.out] at BZ;exact bodyPost_ret (v:=exN e (some ⟨b,0,none⟩) cap) (by simp[results,Tryz.results73,go_sem,v0,v1,v2,v3,exN]) rfl ⟨(some ⟨b,0,none⟩),cap,by rw[hans.out],by rw[hans.out];exact S,BZ⟩))
theorem TyE.shape19 {e:Ex}{t:Int}(h:TyE e t)(hk:e.k=19):∃x y z,e.kids=Fs.ex x (Fs.ex y (Fs.ex z .nil))/\(x.k=2->x.n=0\/x.n=1):=by
 obtain⟨kd,hF,hf1,hf2,ht,hb,hn⟩:=h;have hf:formP e.k e.n kd=([2,wkP kd 1,wkP kd 1],wkP kd 1):=by rw[hk];simp[formP]
 rw[hf] at hf1;rw[<-hf1] at hF;obtain⟨x,y,z,h1,h2,-,-⟩:=TyF_three hF;exact⟨x,y,z,h1,fun h=>(h2.k2 h).2⟩
theorem PostCp.drew {w w':World}{y:Ex}{x:Ending}(h:PostCp w y x w'):PostCp w y x w'.drew:=by
 obtain⟨a,c,h1,S,B⟩:=h;exact⟨a,c,h1,SlcN.mono (w:=w') (w':=w'.drew) (fun _ _ _=>rfl) (Nat.le_refl _) (fun _ h _=>h) S,B.drew⟩
theorem nod15_end {w wr w1:World}{n0 c:Nat}{o:Nat->Nat}{R:Ex}{a:Option Addr}(hB:n0=w.heap.size)(B1:Below n0 w wr)(hz:o (n0+1)=3)(S:SlcN wr (fun k=>n0<=k/\(o k=0\/o k=2)) R.kids a c)(b1:Below wr.heap.size wr w1)(Z:w1.heap[n0+1]?=some (.cells #[.int .i64 0,.int .i64 0,.string ⟨#[]⟩,.slice none 0 0] 34 (0,0))) :
  Hid (∃wz,wz=(((w1.setCell ⟨n0+1,0,none⟩ (.int .i64 R.k)).setCell ⟨n0+1,1,none⟩ (.int .i64 R.n)).setCell ⟨n0+1,2,none⟩ (stv R.nm)).setCell ⟨n0+1,3,none⟩ (.slice a R.kids.len c)/\wz.cell? ⟨n0+1,0,none⟩=some (.int .i64 R.k)/\wz.cell? ⟨n0+1,1,none⟩=some (.int .i64 R.n)/\wz.cell? ⟨n0+1,2,none⟩=some (stv R.nm)/\wz.cell? ⟨n0+1,3,none⟩=some (.slice a R.kids.len c)/\PostCp w R (.returned (exN R a c)) wz):=by
 obtain⟨wz,hwz,u0,u1,u2,u3,bz⟩:=(rule_hu (bx:=n0) (w:=w1) R a c Z (Below.refl _ w1)).out;refine⟨wz,hwz,u0,u1,u2,u3,a,c,rfl,S.mono (fun i hp hl=>?_) (Nat.le_trans b1.size bz.size) (fun i hp _=>by rw[<-hB];exact hp.1),?_⟩
 ·refine Eq.trans ?_ (b1.block i hl);rw[hwz];refine heap_set4 w1 (n0+1) i _ _ _ _ (fun ee=>?_);rw[<-ee] at hz;rcases hp.2 with h|h<;>omega
 ·rw[<-hB];refine(B1.trans (b1.mono ?_)).trans bz
  have:=B1.size
  omega
def Node15Ok (N:Nat):Prop:=∀ (e:Ex) (t:Int) (ao:Option Addr) (cap:Nat) (w:World),TyE e t->e.kids.size<N->e.kids.len<=1000000000->e.kids.short->SnA w e.kids ao ->
 Calls Tryz.prog 37 #[exN e ao cap] w (PostCp w (fldE rulD e))
theorem node15_step {N:Nat}(IH:Node15Ok N):Node15Ok (N+1):=by
 intro e t ao cap w hT hN hlen hsh S;have HT:Hid (TyE e t):=hT;clear hT;obtain⟨R,hR⟩:∃R,R=fldE rulD e:=⟨_,rfl⟩
 rw[<-hR];have HR:Hid (R=fldE rulD e):=hR;clear hR;obtain⟨ii,hii,hzi0,hzi1,hzi2⟩:=info_parts infoNode;obtain⟨w0,hw0⟩:∃w0,w0=((w.alloc (.cells #[.int .i64 e.k,.int .i64 e.n,stv e.nm,.slice ao e.kids.len cap] 34)).alloc (.cells #[.int .i64 0,.int .i64 0,.string ⟨#[]⟩,.slice none 0 0] 34)).alloc (.cells #[.int .i64 e.k,.int .i64 e.n,stv e.nm,.slice none 0 0] 34):=⟨_,rfl⟩
 have B0:Below w.heap.size w w0:=by rw[hw0];exact(((Below.refl _ w).alloc (Nat.le_refl _) _).alloc (by simp) _).alloc (by simp;omega) _
 obtain⟨o0,ho0⟩:∃o0:Nat->Nat,o0=fun k=>if k=w.heap.size+1+1 then 1 else if k=w.heap.size+1 then 3 else 0:=⟨_,rfl⟩
 have E0:Blk w0 o0 0 w.heap.size (.cells #[.int .i64 e.k,.int .i64 e.n,stv e.nm,.slice ao e.kids.len cap] 34):=by
  refine⟨?_,by rw[ho0];simp only;rw[if_neg (by omega),if_neg (by omega)]⟩;rw[hw0];exact(Below.heap_alloc _ _ _ (by simp;omega)).trans ((Below.heap_alloc _ _ _ (by simp)).trans (heap_alloc_new w _))
 have Z0:Blk w0 o0 3 (w.heap.size+1) (.cells #[.int .i64 0,.int .i64 0,.string ⟨#[]⟩,.slice none 0 0] 34):=by
  refine⟨?_,by rw[ho0];simp⟩;rw[hw0];refine(Below.heap_alloc _ _ _ (by simp)).trans ?_
  have:=heap_alloc_new (w.alloc (.cells #[.int .i64 e.k,.int .i64 e.n,stv e.nm,.slice ao e.kids.len cap] 34)) (.cells #[.int .i64 0,.int .i64 0,.string ⟨#[]⟩,.slice none 0 0] 34)
  simpa using this
 have O0:Blk w0 o0 1 (w.heap.size+1+1) (.cells #[.int .i64 e.k,.int .i64 e.n,stv e.nm,.slice none 0 0] 34):=by
  refine⟨?_,by rw[ho0];simp⟩;rw[hw0]
  have:=heap_alloc_new ((w.alloc (.cells #[.int .i64 e.k,.int .i64 e.n,stv e.nm,.slice ao e.kids.len cap] 34)).alloc (.cells #[.int .i64 0,.int .i64 0,.string ⟨#[]⟩,.slice none 0 0] 34)) (.cells #[.int .i64 e.k,.int .i64 e.n,stv e.nm,.slice none 0 0] 34)
  simpa using this
 have L0:∀ k,k<w.heap.size->o0 k=0:=fun k hk=>by rw[ho0];simp only;rw[if_neg (by omega),if_neg (by omega)]
 have A0:=AccCn.nil w0 o0 w.heap.size;rw[exN_out];go_enter Tryz.func37,Tryz.ntmps37;go_upto_region 2 with fail;rw[<-hw0];clear hw0 ho0;obtain⟨n0,hn0⟩:∃n0,n0=w.heap.size:=⟨_,rfl⟩
 rw[<-hn0] at E0 Z0 O0 L0 A0 B0;try rw[<-hn0]
 have HB:Hid (n0=w.heap.size):=hn0;clear hn0;go_wp2;go_loopw [4] (fun v wr=>∃(done r:Fs) (o:Nat->Nat) (va:Value),Hid (e.kids=done.app r)/\v=.int .i64 (done.len:Nat)/\Blk wr o 0 n0 (.cells #[.int .i64 e.k,.int .i64 e.n,stv e.nm,.slice ao e.kids.len cap] 34)/\Blk wr o 3 (n0+1) (.cells #[.int .i64 0,.int .i64 0,.string ⟨#[]⟩,.slice none 0 0] 34)/\Blk wr o 1 (n0+1+1) (.cells #[.int .i64 e.k,.int .i64 e.n,stv e.nm,va] 34)/\AccCn wr o n0 (fldF rulD done) va/\Hid (∀ k,k<n0->o k=0)/\Below n0 w wr) (fun v _=>e.kids.len-(intOf v).toNat)
 case atStart=>exact⟨.nil,e.kids,o0,.slice none 0 0,rfl,by show _=Value.int .i64 ((0:Nat):Int);rfl,E0,Z0,O0,A0,L0,B0⟩
 case round =>
  clear E0 Z0 O0 A0 L0 B0;obtain⟨done,r,o,va,hk,rfl,E1,Z1,O1,A1,L1,B1⟩:=hrel;have hlk:e.kids.len=done.len+r.len:=by rw[hk.out,Fs.len_app]
  obtain⟨p0,p1,p2,p3,pf⟩:=box4 E1.1;cases r using Fs.on with
  | nil =>
   have hl0:¬(done.len:Int)<(e.kids.len:Int):=by simp only[Fs.len] at hlk;omega
   have HDN:Hid (e.kids=done):=by show e.kids=done;rw[hk.out];exact app_nil' done
   obtain⟨ac,hac⟩:∃ac,ac=fldF rulD done:=⟨_,rfl⟩
   rw[<-hac] at A1;have HE:Hid (R=rulD ⟨e.k,e.n,e.nm,0,ac⟩/\TyE ⟨e.k,e.n,e.nm,0,ac⟩ t):=by
    rw[hac,<-HDN.out];obtain⟨kd,hF,hf1,hf2,ht,hb,hn⟩:=HT.out;obtain⟨g1,g2⟩:=fld_same hF;exact⟨HR.out,kd,by show TyF (fldF rulD e.kids) kd;rw[g1];exact g2,hf1,hf2,ht,hb,hn⟩
   obtain⟨ad,cd,rfl,SD⟩:=A1.slc;obtain⟨q,hq⟩:∃q:Ex,q=⟨e.k,e.n,e.nm,0,ac⟩:=⟨_,rfl⟩
   have HTQ:Hid (TyE q t):=by rw[hq];exact HE.out.2
   have HRQ:Hid (R=rulD q):=by rw[hq];exact HE.out.1
   have OQ:wr.heap[n0+1+1]?=some (.cells #[.int .i64 q.k,.int .i64 q.n,stv q.nm,.slice ad q.kids.len cd] 34 (0,0)):=by rw[hq];exact O1.1
   have SQ0:SlcN wr (fun k=>n0<=k/\(o k=0\/o k=2)) q.kids ad cd:=by rw[hq];exact SD
   have SQ:=SQ0;go_upto_region 7 with fail;clear hk hlk hac hq HE HDN HT HR SD A1 O1 E1 L1 p0 p1 p2 p3 pf hl0;obtain⟨u0,u1,u2,u3,uf⟩:=box4 OQ;have hsh:=HTQ.out.shape;have hcs:(q.k=6\/q.k=7\/q.k=26)\/(8<=q.k/\q.k<=12)\/(13<=q.k/\q.k<=16)\/(q.k=17\/q.k=18)\/q.k=19\/q.k=21\/(¬(q.k=6\/q.k=7\/q.k=26)/\¬(8<=q.k/\q.k<=12)/\¬(13<=q.k/\q.k<=16)/\¬(q.k=17\/q.k=18)/\q.k≠19/\q.k≠21):=by omega
   rcases hcs with hk|hk|hk|hk|hk|hk|hk
   focus
    have hc:Calls Tryz.prog 69 #[exN q ad cd] wr (PostRu wr wr (fun k=>n0<=k/\(o k=0\/o k=2)) R):=by
     obtain⟨x,tx,hx,hTx⟩:=hsh.1 (by omega);have hRx:R=siE q x:=by rw[HRQ.out];unfold rulD;rw[if_pos hk,kid_1 hx]
     rw[hRx];exact single_c q x ad cd _ wr hk hx (fun _ h=>hTx.k77 h) (fun h=>hTx.in64 ((cnE_iff x).2 (.inl h))) SQ0
    clear hsh HTQ HRQ SQ0;have hk2:q.k=6\/q.k=7\/q.k=26:=by omega
    clear hk;rcases hk2 with hk|hk|hk
    all_goals (
     obtain⟨t6,t7,t8,t9,t10,t11,t12,t13,t14,t15,t16,t17,t18,t19,t21,t26⟩:=k_facts hk;clear hk;rw[exN_out] at hc;go_wp2_with fail;refine hc.mono ?_;rintro u w1 ⟨a1,c1,rfl,SR,b1⟩;have Z2:=(b1.block _ (lt_of_block Z1.1)).trans Z1.1;clear hc u0 u1 u2 u3 uf SQ;rw[exN_out];have HU:=nod15_end HB.out B1 Z1.2 SR b1 Z2;obtain⟨z0,z1,z2,z3,zf⟩:=box4 Z2;clear Z2 SR;go_wp2;obtain⟨wz,hwz,v0,v1,v2,v3,PZ⟩:=HU.out;rw[<-hwz];exact bodyPost_ret (v:=exN R a1 c1) (by simp[results,Tryz.results37,go_sem,v0,v1,v2,v3,exN]) rfl PZ)
   focus
    have hc:Calls Tryz.prog 70 #[exN q ad cd] wr (PostRu wr wr (fun k=>n0<=k/\(o k=0\/o k=2)) R):=by
     obtain⟨x,y,tx,ty,hx,hTx,hTy⟩:=hsh.2.1 (by omega);have hRx:R=nuE q x y:=by rw[HRQ.out];unfold rulD;rw[if_neg (by omega),if_pos hk,kid_1 hx,kid_2 hx]
     rw[hRx];exact numbers15_c q x y ad cd _ wr hk hx (fun h=>hTx.in64 ((cnE_iff x).2 (.inl h))) (fun h=>hTy.in64 ((cnE_iff y).2 (.inl h))) SQ0
    clear hsh HTQ HRQ SQ0;have hk2:q.k=8\/q.k=9\/q.k=10\/q.k=11\/q.k=12:=by omega
    clear hk;rcases hk2 with hk|hk|hk|hk|hk
    all_goals (
     obtain⟨t6,t7,t8,t9,t10,t11,t12,t13,t14,t15,t16,t17,t18,t19,t21,t26⟩:=k_facts hk;clear hk;rw[exN_out] at hc;go_wp2_with fail;refine hc.mono ?_;rintro u w1 ⟨a1,c1,rfl,SR,b1⟩;have Z2:=(b1.block _ (lt_of_block Z1.1)).trans Z1.1;clear hc u0 u1 u2 u3 uf SQ;rw[exN_out];have HU:=nod15_end HB.out B1 Z1.2 SR b1 Z2;obtain⟨z0,z1,z2,z3,zf⟩:=box4 Z2;clear Z2 SR;go_wp2;obtain⟨wz,hwz,v0,v1,v2,v3,PZ⟩:=HU.out;rw[<-hwz];exact bodyPost_ret (v:=exN R a1 c1) (by simp[results,Tryz.results37,go_sem,v0,v1,v2,v3,exN]) rfl PZ)
   focus
    have hc:Calls Tryz.prog 71 #[exN q ad cd] wr (PostRu wr wr (fun k=>n0<=k/\(o k=0\/o k=2)) R):=by
     obtain⟨x,y,tx,ty,hx,hTx,hTy⟩:=hsh.2.1 (by omega);have hRx:R=cmE q x y:=by rw[HRQ.out];unfold rulD;rw[if_neg (by omega),if_neg (by omega),if_pos hk,kid_1 hx,kid_2 hx]
     rw[hRx];exact compared_c q x y ad cd _ wr hx SQ0
    clear hsh HTQ HRQ SQ0;have hk2:q.k=13\/q.k=14\/q.k=15\/q.k=16:=by omega
    clear hk;rcases hk2 with hk|hk|hk|hk
    all_goals (
     obtain⟨t6,t7,t8,t9,t10,t11,t12,t13,t14,t15,t16,t17,t18,t19,t21,t26⟩:=k_facts hk;clear hk;rw[exN_out] at hc;go_wp2_with fail;refine hc.mono ?_;rintro u w1 ⟨a1,c1,rfl,SR,b1⟩;have Z2:=(b1.block _ (lt_of_block Z1.1)).trans Z1.1;clear hc u0 u1 u2 u3 uf SQ;rw[exN_out];have HU:=nod15_end HB.out B1 Z1.2 SR b1 Z2;obtain⟨z0,z1,z2,z3,zf⟩:=box4 Z2;clear Z2 SR;go_wp2;obtain⟨wz,hwz,v0,v1,v2,v3,PZ⟩:=HU.out;rw[<-hwz];exact bodyPost_ret (v:=exN R a1 c1) (by simp[results,Tryz.results37,go_sem,v0,v1,v2,v3,exN]) rfl PZ)
   focus
    have hc:Calls Tryz.prog 72 #[exN q ad cd] wr (PostRu wr wr (fun k=>n0<=k/\(o k=0\/o k=2)) R):=by
     obtain⟨x,y,tx,ty,hx,hTx,hTy⟩:=hsh.2.1 (by omega);have hRx:R=joE q x y (if q.k=18 then 0 else 1):=by rw[HRQ.out];unfold rulD;rw[if_neg (by omega),if_neg (by omega),if_neg (by omega),if_pos hk,kid_1 hx,kid_2 hx]
     rw[hRx];exact joined_c q x y _ (by show _\/_;by_cases h:q.k=18;exact .inl ⟨h,by rw[if_pos h]⟩;exact .inr ⟨h,by rw[if_neg h]⟩) ad cd _ wr hx SQ0
    clear hsh HTQ HRQ SQ0;have hk2:q.k=17\/q.k=18:=by omega
    clear hk;rcases hk2 with hk|hk
    all_goals (
     obtain⟨t6,t7,t8,t9,t10,t11,t12,t13,t14,t15,t16,t17,t18,t19,t21,t26⟩:=k_facts hk;clear hk;rw[exN_out] at hc;go_wp2_with fail;refine hc.mono ?_;rintro u w1 ⟨a1,c1,rfl,SR,b1⟩;have Z2:=(b1.block _ (lt_of_block Z1.1)).trans Z1.1;clear hc u0 u1 u2 u3 uf SQ;rw[exN_out];have HU:=nod15_end HB.out B1 Z1.2 SR b1 Z2;obtain⟨z0,z1,z2,z3,zf⟩:=box4 Z2;clear Z2 SR;go_wp2;obtain⟨wz,hwz,v0,v1,v2,v3,PZ⟩:=HU.out;rw[<-hwz];exact bodyPost_ret (v:=exN R a1 c1) (by simp[results,Tryz.results37,go_sem,v0,v1,v2,v3,exN]) rfl PZ)
   focus
    obtain⟨x,y,z,hx,hxn⟩:=HTQ.out.shape19 hk;have HRx:Hid (R=if x.k=2 then (if x.n=1 then y else z) else q):=by show _=_;rw[HRQ.out];unfold rulD;rw[if_neg (by omega),if_neg (by omega),if_neg (by omega),if_neg (by omega),if_pos hk,kid_1 hx,kid_2 hx,kid_3 hx]
    have S2:=SQ0;rw[hx] at S2;obtain⟨b,a0,c0,had,hb,x0,x1,-,-,-⟩:=SlcN.kidM (d:=.nil) S2;have hl0:(0:Int)<(q.kids.len:Int):=by rw[hx];show (0:Int)<((3:Nat):Int);decide
    simp only[Fs.len,Nat.zero_mul,Nat.zero_add] at x0 x1;obtain⟨t6,t7,t8,t9,t10,t11,t12,t13,t14,t15,t16,t17,t18,t19,t21,t26⟩:=k_facts hk;by_cases hx2:x.k=2
    ·have tx:(x.k==2)=true:=by simpa using hx2
     obtain⟨m,a1,c1,hml,hwl,y0,y1,y2,y3,SR⟩:∃(m:Nat) (a:Option Addr) (c:Nat),(m:Int)<(q.kids.len:Int)/\IntKind.i64.wrap (2-x.n)=(m:Int)/\wr.cell? ⟨b,m*4,none⟩=some (.int .i64 R.k)/\wr.cell? ⟨b,m*4+1,none⟩=some (.int .i64 R.n)/\wr.cell? ⟨b,m*4+2,none⟩=some (stv R.nm)/\wr.cell? ⟨b,m*4+3,none⟩=some (.slice a R.kids.len c)/\SlcN wr (fun k=>n0<=k/\(o k=0\/o k=2)) R.kids a c:=by
      rcases hxn hx2 with h|h
      ·obtain⟨b',a,c,h1,-,h3,h4,h5,h6,h7⟩:=SlcN.kidM (d:=Fs.ex x (Fs.ex y .nil)) (y:=z) (r:=.nil) S2;rw[had] at h1;injection h1 with h1
       injection h1 with h1
       subst h1;have hRz:R=z:=by rw[HRx.out,if_pos hx2,if_neg (by omega)]
       rw[hRz,h,hx];exact⟨2,a,c,by show (2:Int)<((3:Nat):Int);decide,by decide,h3,h4,h5,h6,h7⟩
      ·obtain⟨b',a,c,h1,-,h3,h4,h5,h6,h7⟩:=SlcN.kidM (d:=Fs.ex x .nil) (y:=y) (r:=Fs.ex z .nil) S2;rw[had] at h1;injection h1 with h1
       injection h1 with h1
       subst h1;have hRz:R=y:=by rw[HRx.out,if_pos hx2,if_pos h]
       rw[hRz,h,hx];exact⟨1,a,c,by show (1:Int)<((3:Nat):Int);decide,by decide,h3,h4,h5,h6,h7⟩
     have HUd:=nod15_end HB.out B1 Z1.2 SR (Below.refl _ wr) Z1.1;obtain⟨z0,z1,z2,z3,zf⟩:=box4 Z1.1;subst had;clear hsh HTQ HRQ SQ0 hk hx S2 hxn hx2 SR HRx SQ;go_upto_region 28 with fail;go_region;go_wp2;obtain⟨wz,hwz,v0,v1,v2,v3,PZ⟩:=HUd.out;rw[<-hwz];have v0:wz.drew.cell? _=_:=v0;have v1:wz.drew.cell? _=_:=v1;have v2:wz.drew.cell? _=_:=v2;have v3:wz.drew.cell? _=_:=v3;exact bodyPost_ret (v:=exN R a1 c1) (by simp[results,Tryz.results37,go_sem,v0,v1,v2,v3,exN]) rfl PZ.drew
    ·have tx:(x.k==2)=false:=by simpa using hx2
     have hRe:R=q:=by rw[HRx.out,if_neg hx2]
     subst had;clear hsh HTQ HRQ SQ0 hk hx S2 hxn hx2 HRx;subst hRe;have Z2:=Z1.1;have HU:=nod15_end HB.out B1 Z1.2 SQ (Below.refl _ wr) Z2;obtain⟨z0,z1,z2,z3,zf⟩:=box4 Z2;clear Z2 ;go_wp2;obtain⟨wz,hwz,v0,v1,v2,v3,PZ⟩:=HU.out;rw[<-hwz];exact bodyPost_ret (v:=exN R (some ⟨b,0,none⟩) cd) (by simp[results,Tryz.results37,go_sem,v0,v1,v2,v3,exN]) rfl PZ
   focus
    have hc:Calls Tryz.prog 73 #[exN q ad cd] wr (PostRu wr wr (fun k=>n0<=k/\(o k=0\/o k=2)) R):=by
     obtain⟨x,y,tx,ty,hx,hTx,hTy⟩:=hsh.2.1 (by omega);have hRx:R=qdE q x y:=by rw[HRQ.out];unfold rulD;rw[if_neg (by omega),if_neg (by omega),if_neg (by omega),if_neg (by omega),if_neg (by omega),if_pos hk,kid_1 hx,kid_2 hx]
     rw[hRx];exact quant15_c q x y ad cd _ wr hx SQ0
    clear hsh HTQ HRQ SQ0;obtain⟨t6,t7,t8,t9,t10,t11,t12,t13,t14,t15,t16,t17,t18,t19,t21,t26⟩:=k_facts hk;clear hk;rw[exN_out] at hc;go_wp2_with fail;refine hc.mono ?_;rintro u w1 ⟨a1,c1,rfl,SR,b1⟩;have Z2:=(b1.block _ (lt_of_block Z1.1)).trans Z1.1;clear hc u0 u1 u2 u3 uf SQ;rw[exN_out];have HU:=nod15_end HB.out B1 Z1.2 SR b1 Z2;obtain⟨z0,z1,z2,z3,zf⟩:=box4 Z2;clear Z2 SR;go_wp2;obtain⟨wz,hwz,v0,v1,v2,v3,PZ⟩:=HU.out;rw[<-hwz];exact bodyPost_ret (v:=exN R a1 c1) (by simp[results,Tryz.results37,go_sem,v0,v1,v2,v3,exN]) rfl PZ
   focus
    have hRe:R=q:=by rw[HRQ.out];unfold rulD;rw[if_neg (by omega),if_neg (by omega),if_neg (by omega),if_neg (by omega),if_neg (by omega),if_neg (by omega)]
    have t6:(q.k==6)=false:=by simp;omega
    have t7:(q.k==7)=false:=by simp;omega
    have t8:(q.k==8)=false:=by simp;omega
    have t9:(q.k==9)=false:=by simp;omega
    have t10:(q.k==10)=false:=by simp;omega
    have t11:(q.k==11)=false:=by simp;omega
    have t12:(q.k==12)=false:=by simp;omega
    have t13:(q.k==13)=false:=by simp;omega
    have t14:(q.k==14)=false:=by simp;omega
    have t15:(q.k==15)=false:=by simp;omega
    have t16:(q.k==16)=false:=by simp;omega
    have t17:(q.k==17)=false:=by simp;omega
    have t18:(q.k==18)=false:=by simp;omega
    have t19:(q.k==19)=false:=by simp;omega
    have t21:(q.k==21)=false:=by simp;omega
    have t26:(q.k==26)=false:=by simp;omega
    clear hsh HTQ HRQ SQ0 hk;subst hRe;have Z2:=Z1.1;have HU:=nod15_end HB.out B1 Z1.2 SQ (Below.refl _ wr) Z2;obtain⟨z0,z1,z2,z3,zf⟩:=box4 Z2;clear Z2 ;go_wp2;obtain⟨wz,hwz,v0,v1,v2,v3,PZ⟩:=HU.out;rw[<-hwz];exact bodyPost_ret (v:=exN R ad cd) (by simp[results,Tryz.results37,go_sem,v0,v1,v2,v3,exN]) rfl PZ
  | cons kk kn km ka kks kr =>
   have hl0:(done.len:Int)<(e.kids.len:Int):=by simp only[Fs.len] at hlk;omega
   have hl1:done.len<e.kids.len:=by omega
   have hsz:e.kids.size=done.size+(kks.size+kr.size+1):=by rw[hk.out,Fs.size_app];rfl
   have hsk:(Fs.cons kk kn km ka kks kr).short:=Fs.app_short (by rw[<-hk.out];exact hsh);have hn0:n0<=wr.heap.size:=by have:=E1.lt;omega
   obtain⟨b,off,ak,ck,hao,lb1,-,x0,x1,x2,x3,SK⟩:=SlN.kidQ (by rw[<-hk.out];exact SnA.below S (by rw[<-HB.out];exact B1));subst hao;obtain⟨y,hy⟩:∃y:Ex,y=fldE rulD ⟨kk,kn,km,ka,kks⟩:=⟨_,rfl⟩
   obtain⟨ac,hac⟩:∃ac,ac=fldF rulD done:=⟨_,rfl⟩
   rw[<-hac] at A1;have HLA:Hid (ac.len=done.len):=by show _=_;rw[hac,fldF_len]
   obtain⟨tk,hTk⟩:∃tk,TyE ⟨kk,kn,km,ka,kks⟩ tk:=by
    obtain⟨kd,hF,-⟩:=HT.out;rw[hk.out] at hF;exact TyF_mid (y:=⟨kk,kn,km,ka,kks⟩) hF
   have hc0:=IH ⟨kk,kn,km,ka,kks⟩ tk ak ck wr hTk (by show kks.size<N;omega) hsk.2.1 hsk.2.2.1 SK;have hc:Calls Tryz.prog 37 #[.agg #[.int .i64 kk,.int .i64 kn,stv km,.slice ak kks.len ck]] wr (PostCp wr y):=by rw[hy];exact hc0
   clear hc0;have hk2:Hid (e.kids=(done.snoc ⟨kk,kn,km,ka,kks⟩).app kr):=by show e.kids=_;rw[hk.out];unfold Fs.snoc;rw[Fs.app_assoc];rfl
   have HS:Hid (fldF rulD (done.snoc ⟨kk,kn,km,ka,kks⟩)=ac.snoc y):=by show _=_;rw[hy,hac,fldF_snoc]
   clear hac;have hl2:(done.len:Int)+1=((done.snoc ⟨kk,kn,km,ka,kks⟩).len:Nat):=by rw[Fs.len_snoc];rfl
   clear hlk hsz hsk hy SK hTk;go_wp2_with fail;refine hc.mono ?_;rintro x w6 ⟨bk6,ck6,rfl,S6,b6⟩;have s6:Step (fun _=>False) wr o w6 (newLab wr o 0):=((Step.refl _ wr o).labelled 0).trans (Step.ofB (newLab wr o 0) b6);have T6:SlcN w6 (N0 n0 (newLab wr o 0)) y.kids bk6 ck6:=S6.mono (fun _ _ _=>rfl) (Nat.le_refl _) (fun i hp hl=>⟨Nat.le_trans hn0 hp,newLab_new hp⟩);have L6:Hid (∀ k,k<n0->newLab wr o 0 k=0):=fun k hk=>by rw[newLab_old (by omega)];exact L1.out k hk
   have E6:=E1.step s6 id;have Z6:=Z1.step s6 id;have O6:=O1.step s6 id;have A6:=A1.step s6 id id;have B6:=below_stepB B1 s6 (fun _ _=>id) (by rw[HB.out];exact Nat.le_refl _);generalize newLab wr o 0=o6 at *;clear hc S6 b6 s6 E1 Z1 O1 A1 B1 L1 x0 x1 x2 x3 p0 p1 p2 p3 pf;have s7:=boxStep (fun _=>False) w6 o6 (.cells #[.int .i64 y.k,.int .i64 y.n,stv y.nm,.slice bk6 y.kids.len ck6] 34);have K7:=boxBlk w6 o6 #[.int .i64 y.k,.int .i64 y.n,stv y.nm,.slice bk6 y.kids.len ck6] 34;have T7:=T6.lab s7 id;have hs6:n0<=w6.heap.size:=by have:=E6.lt;omega
   have L7:Hid (∀ k,k<n0->newLab w6 o6 0 k=0):=fun k hk=>by rw[newLab_old (by omega)];exact L6.out k hk
   have E7:=E6.step s7 id;have Z7:=Z6.step s7 id;have O7:=O6.step s7 id;have A7:=A6.step s7 id id;have B7:=below_stepB B6 s7 (fun _ _=>id) (by rw[HB.out];exact Nat.le_refl _);rw[exN_out];go_upto_region 6 with fail;generalize newLab w6 o6 0=o7 at *;generalize w6.alloc (.cells #[.int .i64 y.k,.int .i64 y.n,stv y.nm,.slice bk6 y.kids.len ck6] 34)=w7 at *;generalize w6.heap.size=bk at *;clear s7 T6 E6 Z6 O6 A6 B6 L6;obtain⟨p0,p1,p2,p3,pf⟩:=box4 O7.1;obtain⟨q0,q1,q2,q3,qf⟩:=box4 K7.1;have s8:=boxStep (fun _=>False) w7 o7 (.cells #[.int .i64 y.k,.int .i64 y.n,stv y.nm,.slice bk6 y.kids.len ck6] 34);have T8:=T7.lab s8 id;have L8:Hid (∀ k,k<n0->newLab w7 o7 0 k=0):=fun k hk=>by rw[newLab_old (by have:=E7.lt;omega)];exact L7.out k hk
   have E8:=E7.step s8 id;have Z8:=Z7.step s8 id;have O8:=O7.step s8 id;have A8:=A7.step s8 id id;have B8:=below_stepB B7 s8 (fun _ _=>id) (by rw[HB.out];exact Nat.le_refl _);obtain⟨xs,R8,F8,-,-⟩:=A8;obtain⟨a8,c8,rfl⟩:=R8.form;have b1:ac.len+1<=maxLen:=by have:=HLA.out;unfold maxLen;omega
   have b2:(ac.len+1)*56<=140737488355328:=by have:=HLA.out;omega
   have hone:∀ u ∈ [Value.int .i64 y.k,.int .i64 y.n,stv y.nm,.slice bk6 y.kids.len ck6],u.oneCell'=true:=by intro u hu;simp at hu;rcases hu with rfl|rfl|rfl|rfl<;>rfl
   have hne8:∀ k,k<n0->newLab w7 o7 0 k≠2:=fun k hk=>by rw[L8.out k hk];decide
   have hw8:n0<=(w7.alloc (.cells #[.int .i64 y.k,.int .i64 y.n,stv y.nm,.slice bk6 y.kids.len ck6] 34)).heap.size:=by have:=E8.lt;omega
   clear E7 Z7 O7 A7 B7 L7 T7 s8;go_wp2_with (first|(at_builtin;refine wpList_append_lab rfl (.tmp 27) (.tmp 29) 32 rfl 34 ii _ 4 56 Tryz.underlying32 hii hzi0 hzi1 hzi2 rfl (by decide) (newLab w7 o7 0) 2 _ ac.len xs rfl R8 ⟨w7.heap.size,0,none⟩ 1 1 [Value.int .i64 y.k,.int .i64 y.n,stv y.nm,.slice bk6 y.kids.len ck6] rfl rfl (new_cells_at w7 _ _) hone (by decide) b1 b2 ?_)|go_in);intro g9 c9 w9 o9 r9 s9;have A9:AccCn w9 o9 n0 (ac.snoc y) (.slice (some ⟨g9,0,none⟩) (ac.len+1) c9):=AccCn.push F8 T8 s9 hne8 hw8 r9;have E9:=E8.step s9 (by decide);have Z9:=Z8.step s9 (by decide);have O9:=O8.step s9 (by decide);have L9:Hid (∀ k,k<n0->o9 k=0):=fun k hk=>(s9.lab k (by have:=E8.lt;omega)).trans (L8.out k hk);have B9:=below_stepB B8 s9 (fun k hk=>by rw[L8.out k hk];decide) (by rw[HB.out];exact Nat.le_refl _);have s10:Step (fun k=>k=1) w9 o9 (w9.setCell ⟨n0+1+1,3,none⟩ (.slice (some ⟨g9,0,none⟩) (ac.len+1) c9)) o9:=setStep _ w9 o9 ⟨n0+1+1,3,none⟩ _ O9.2;have A10:=A9.step s10 (by decide) (by decide);have E10:=E9.step s10 (by decide);have Z10:=Z9.step s10 (by decide);have O10:=O9.set 3 (.slice (some ⟨g9,0,none⟩) (ac.len+1) c9);have B10:=below_stepB B9 s10 (fun k hk=>by rw[L9.out k hk];decide) (by rw[HB.out];exact Nat.le_refl _);obtain⟨t0,t1,t2,t3,tf⟩:=box4 O9.1;rw[<-HS.out] at A10;clear A9 E9 Z9 O9 B9 s10 E8 Z8 O8 B8 L8 T8 R8 F8 r9 s9 p0 p1 p2 p3 pf q0 q1 q2 q3 qf hk HS K7;go_wp2;go_roundw
   case rel=>exact⟨_,kr,o9,_,hk2,by rw[<-hl2],E10,Z10,O10,A10,L9,B10⟩
   case measure=>simp[intOf];omega
theorem node15_ok:∀ N,Node15Ok N -- 37
 | 0=>fun e t ao cap w hT h=>absurd h (Nat.not_lt_zero _)
 | N+1=>node15_step (node15_ok N)
theorem step_append_any {P:Program}{w:World}{ops:Array Oper}{op:Oper}{a:Act}{K:Act->World->Prop}{Q:Exit->Act->World->Prop}{E:Prop}(hgd:op.guard=none)(s x:Operand)(t:TypeId)
  (ho:op.op=.call { callee:=.builtin .append,args:=#[s,x],argTypes:=#[t,t] })
  (e:TypeId) (i:TypeInfo) (z:Value) (size bytes:Nat) (ht:P.underlying t=some (.slice e)) (hi:P.info? e=some i) (hz:i.zero=some z)
  (hsize:i.size=size) (hby:i.bytes=bytes) (hzs:z.cells.size=size) (hsz:0<size)
  (o:Nat->Nat) (lb:Nat) (v:Value) (n:Nat) (xs:List Value) (hs:a.eval s=v) (hrow:Row w o lb e size v n xs)
  (y:Option Addr) (m c:Nat) (news:List Value) (hx:a.eval x=.slice y m c) (hl:news.length=m*size) (hnews:0<m->∃ad,y=some ad/\∀ j u,news[j]?=some u->w.cell? (ad.add j)=some u) (h1:∀ u ∈ news,u.oneCell'=true)
  (h63:n+m<=maxLen) (hbytes:(n+m)*bytes<=140737488355328)
  (h:∀ ao cap w' o',Row w' o' lb e size (.slice ao (n+m) cap) (n+m) (xs++news)->Step (fun k=>k=lb) w o w' o'->K (a.put op.dst (.slice ao (n+m) cap)) w') :
  if Region.wanted op (yielded ops a.tmps)=true then Oper.wp P op a w K Q else E:=by
 by_cases hm:0<m
 ·obtain⟨ad,rfl,hn⟩:=hnews hm;exact step_append_lab hgd s x t ho e i z size bytes ht hi hz hsize hby hzs hsz o lb v n xs hs hrow ad m c news hx hl hn h1 hm h63 hbytes fun g cap w' o' r st=>h _ _ _ _ r st
 ·obtain rfl:m=0:=by omega
  obtain⟨ao,cap,rfl⟩:=hrow.form;have hnil:news=[]:=List.eq_nil_of_length_eq_zero (by omega);subst hnil;have hw:Region.wanted op (yielded ops a.tmps)=true:=by simp[Region.wanted,hgd]
  rw[if_pos hw];have hr:=run_append_zero (P:=P) w t op.type e i ht hi ao n cap y c hrow.cap.2.1;unfold Oper.wp execOp;simp only[ho,resolve,invoke,builtin,Sem.run_bind,Sem.run_pure,Result.andThen_ok,List.map_toArray,List.map_cons,List.map_nil,hs,hx,hr];exact h ao cap w o (by rw[List.append_nil];exact hrow) (Step.refl _ _ _)
theorem PasV.w {w w':World}{Y:Ex}{C:List Int}{er:Nat}{x:Ending}(h:PasV w Y C er x w'):PasW w Y C er x w':=by
 obtain⟨g,ay,cy,v,rfl,S,own,-,b⟩:=h;have R:Row w' (fun _=>0) 0 3 1 v C.length (C.map (Value.int .i64)):=⟨own,fun _ _=>rfl⟩
 obtain⟨a,c,rfl⟩:=R.form;exact⟨ay,cy,_,rfl,S.sl.all,InA.ofRow R,b⟩
theorem inA_news {w:World}{ao:Option Addr}{cap:Nat}{xs:List Int}(h:InA w (.slice ao xs.length cap) xs):0<xs.length->∃ad,ao=some ad/\∀ j u,(xs.map (Value.int .i64))[j]?=some u->w.cell? (ad.add j)=some u:=by
 obtain⟨a,c,hv,hx⟩:=h;injection hv with h1 h2 h3
 subst h1;exact InA.news (cap:=cap) hx
theorem foldd_c (e:Ex)(ao:Option Addr)(cap:Nat)(cv:Value)(cells:List Int)(w:World)(hf:FitN e)(hn:In64 e.n)(hrn:e.kids.rng)(hc:InA w cv cells)(hcl:cells.length<=100000)(S:SnA w e.kids ao) :
  Calls Tryz.prog 16 #[plV e ao cap cv] w (PasV w (pasY (decide (kindP cells e≠0)) (fldE rulP e)) (pasC (decide (kindP cells e≠0)) cells) (pasR (decide (kindP cells e≠0)))):=by
 obtain⟨ii,hii,hzi0,hzi1,hzi2⟩:=info_parts infoInt;obtain⟨ac,cc,hcv,hcx⟩:=hc;have hc:InA w cv cells:=⟨ac,cc,hcv,hcx⟩
 subst hcv;clear hcx;obtain⟨w0,hw0⟩:∃w0,w0=(w.alloc (.cells #[.int .i64 e.k,.int .i64 e.n,stv e.nm,.slice ao e.kids.len cap,.slice ac cells.length cc] 37)).alloc (.cells #[.int .i64 0,.int .i64 0,.string ⟨#[]⟩,.slice none 0 0,.slice none 0 0] 37):=⟨_,rfl⟩
 have B0:Below w.heap.size w w0:=by rw[hw0];exact((Below.refl _ w).alloc (Nat.le_refl _) _).alloc (by simp) _
 have P0:w0.heap[w.heap.size]?=some (.cells #[.int .i64 e.k,.int .i64 e.n,stv e.nm,.slice ao e.kids.len cap,.slice ac cells.length cc] 37 (0,0)):=by
  rw[hw0];exact(Below.heap_alloc _ _ _ (by simp)).trans (heap_alloc_new w _)
 have Z0:w0.heap[w.heap.size+1]?=some (.cells #[.int .i64 0,.int .i64 0,.string ⟨#[]⟩,.slice none 0 0,.slice none 0 0] 37 (0,0)):=by
  rw[hw0]
  have:=heap_alloc_new (w.alloc (.cells #[.int .i64 e.k,.int .i64 e.n,stv e.nm,.slice ao e.kids.len cap,.slice ac cells.length cc] 37)) (.cells #[.int .i64 0,.int .i64 0,.string ⟨#[]⟩,.slice none 0 0,.slice none 0 0] 37)
  simpa using this
 have hc0:=hc.below B0;have c1:=right14_c e ao cap _ cells w0 hf hc0 (by omega) (SnA.below S B0);rw[plV_out] at c1 ⊢;go_enter Tryz.func16,Tryz.ntmps16;go_upto_region 1 with fail;rw[<-hw0];clear hw0;obtain⟨n0,hn0⟩:∃n0,n0=w.heap.size:=⟨_,rfl⟩
 rw[<-hn0] at P0 Z0 B0;try rw[<-hn0]
 have HB:Hid (n0=w.heap.size):=hn0;clear hn0;obtain⟨p0,p1,p2,p3,p4,pf⟩:=box5 P0;go_wp2_with fail;refine c1.mono ?_;rintro x w1 ⟨rfl,b1⟩;have hzl:=lt_of_block Z0;have hs1:=b1.size;have P1:=(b1.block _ (lt_of_block P0)).trans P0;have Z1:=(b1.block _ hzl).trans Z0;have B1:Below n0 w w1:=B0.trans (b1.mono (by omega));have hc1:=hc0.below b1;have S1:=SnA.below (SnA.below S (by rw[<-HB.out];exact B0)) b1;have hz1:n0+1<w1.heap.size:=lt_of_block Z1;clear c1 b1 P0 Z0 p0 p1 p2 p3 p4 pf hc0 B0 hzl hs1 hc S;by_cases hk:kindP cells e=0
 ·have hd:decide (kindP cells e≠0)=false:=by simp[hk]
  rw[hd];have HP:Hid (∀ wz,Below n0 w1 wz->PasV w (pasY (decide (kindP cells e≠0)) (fldE rulP e)) (pasC (decide (kindP cells e≠0)) cells) (pasR (decide (kindP cells e≠0))) (.returned (.tuple #[.agg #[.int .i64 0,.int .i64 0,.string ⟨#[]⟩,.slice none 0 0,.slice none 0 0],.int .i64 140])) wz):=fun wz bz=>by
   have bw:Below w.heap.size w wz:=by rw[<-HB.out];exact B1.trans bz
   rw[hd];exact⟨0,none,0,.slice none 0 0,rfl,.inl ⟨rfl,rfl,rfl⟩,World.ownsRow_nil _ _ _ _,fun k hk=>by simp[Value.ownBlock] at hk,bw⟩
  have HU:Hid (∃wz,wz=(((((w1.setCell ⟨n0+1,0,none⟩ (.int .i64 0)).setCell ⟨n0+1,1,none⟩ (.int .i64 0)).setCell ⟨n0+1,2,none⟩ (.string ⟨#[]⟩)).setCell ⟨n0+1,3,none⟩ (.slice none 0 0)).setCell ⟨n0+1,4,none⟩ (.slice none 0 0))/\wz.cell? ⟨n0+1,0,none⟩=some (.int .i64 0)/\wz.cell? ⟨n0+1,1,none⟩=some (.int .i64 0)/\wz.cell? ⟨n0+1,2,none⟩=some (.string ⟨#[]⟩)/\wz.cell? ⟨n0+1,3,none⟩=some (.slice none 0 0)/\wz.cell? ⟨n0+1,4,none⟩=some (.slice none 0 0)/\Below n0 w1 wz):=by
   obtain⟨u0,u1,u2,u3,u4,-⟩:=box5 (set5k (.int .i64 0) (.int .i64 0) (.string ⟨#[]⟩) (.slice none 0 0) (.slice none 0 0) Z1);exact⟨_,rfl,u0,u1,u2,u3,u4,(((((Below.refl n0 w1).setCell (p:=⟨n0+1,0,none⟩) (Nat.le_succ _) _).setCell (p:=⟨n0+1,1,none⟩) (Nat.le_succ _) _).setCell (p:=⟨n0+1,2,none⟩) (Nat.le_succ _) _).setCell (p:=⟨n0+1,3,none⟩) (Nat.le_succ _) _).setCell (p:=⟨n0+1,4,none⟩) (Nat.le_succ _) _⟩
  obtain⟨z0,z1,z2,z3,z4,zf⟩:=box5 Z1;clear hk hd B1 P1 Z1 hc1 S1;go_wp2;obtain⟨wz,hwz,v0,v1,v2,v3,v4,bz⟩:=HU.out;rw[<-hwz];exact bodyPost_ret (v:=.tuple #[.agg #[.int .i64 0,.int .i64 0,.string ⟨#[]⟩,.slice none 0 0,.slice none 0 0],.int .i64 140]) (by simp[results,Tryz.results16,go_sem,v0,v1,v2,v3,v4]) rfl (HP.out wz bz)
 ·have hd:decide (kindP cells e≠0)=true:=by simp[hk]
  rw[hd];obtain⟨hcl2,-,s0,hrg,-⟩:=kindP_inv hk;have hT:=rgE_ty hrg hn hrn;clear hrg hd;obtain⟨Y,hY⟩:∃Y,Y=fldE rulP e:=⟨_,rfl⟩
  have hcF:=fun (wx:World) (hx:SnA wx e.kids ao)=>node15_ok (e.kids.size+1) e _ ao cap wx hT (by omega) hf.len hf.sh hx;simp only[exN_out] at hcF;rw[fldE_same hT,<-hY] at hcF;have HE:Hid (∀ x w',PasV w Y cells 0 x w'->PasV w (pasY (decide (kindP cells e≠0)) (fldE rulP e)) (pasC (decide (kindP cells e≠0)) cells) (pasR (decide (kindP cells e≠0))) x w'):=fun x w' h=>by rw[decide_eq_true hk,<-hY];exact h
  clear hY hT hf hn hrn hk;go_upto_region 5 with fail;obtain⟨p0,p1,p2,p3,p4,pf⟩:=box5 P1;have hpl:n0<w1.heap.size:=lt_of_block P1;have Bd:Below w1.heap.size w1 w1.drew:=⟨rfl,rfl,rfl,Nat.le_refl _,fun _ _=>rfl⟩
  have k0:w1.cell? ⟨n0,0,none⟩=some (.int .i64 e.k)/\w1.cell? ⟨n0,1,none⟩=some (.int .i64 e.n)/\w1.cell? ⟨n0,2,none⟩=some (stv e.nm)/\w1.cell? ⟨n0,3,none⟩=some (.slice ao e.kids.len cap)/\w1.cell? ⟨n0,4,none⟩=some (.slice ac cells.length cc):=⟨p0,p1,p2,p3,p4⟩
  have k1:w1.drew.cell? ⟨n0,0,none⟩=some (.int .i64 e.k)/\w1.drew.cell? ⟨n0,1,none⟩=some (.int .i64 e.n)/\w1.drew.cell? ⟨n0,2,none⟩=some (stv e.nm)/\w1.drew.cell? ⟨n0,3,none⟩=some (.slice ao e.kids.len cap)/\w1.drew.cell? ⟨n0,4,none⟩=some (.slice ac cells.length cc):=k0;have hone:=ones_int cells;have q1:0+cells.length<=maxLen:=by unfold maxLen;omega
  have q2:(0+cells.length)*8<=140737488355328:=by omega
  go_region_held3 (fun wx=>wx.cell? ⟨n0,0,none⟩=some (.int .i64 e.k)/\wx.cell? ⟨n0,1,none⟩=some (.int .i64 e.n)/\wx.cell? ⟨n0,2,none⟩=some (stv e.nm)/\wx.cell? ⟨n0,3,none⟩=some (.slice ao e.kids.len cap)/\wx.cell? ⟨n0,4,none⟩=some (.slice ac cells.length cc)) (first|(with_reducible exact k3)|(with_reducible exact set5_keep k3)|(with_reducible exact k2)|(with_reducible exact k1)|(with_reducible exact k0)) ((first|(go_at_call 37;refine(hcF _ (S1.belowP Bd)).mono ?_;rintro x w2 ⟨ay,cy,rfl,S2,b2⟩;have Bw:Below w1.heap.size w1 w2:=Bd.trans (b2.mono (by simp));have k2:w2.cell? ⟨n0,0,none⟩=some (.int .i64 e.k)/\w2.cell? ⟨n0,1,none⟩=some (.int .i64 e.n)/\w2.cell? ⟨n0,2,none⟩=some (stv e.nm)/\w2.cell? ⟨n0,3,none⟩=some (.slice ao e.kids.len cap)/\w2.cell? ⟨n0,4,none⟩=some (.slice ac cells.length cc):=⟨(Bw.cell (p:=⟨n0,0,none⟩) hpl).trans p0,(Bw.cell (p:=⟨n0,1,none⟩) hpl).trans p1,(Bw.cell (p:=⟨n0,2,none⟩) hpl).trans p2,(Bw.cell (p:=⟨n0,3,none⟩) hpl).trans p3,(Bw.cell (p:=⟨n0,4,none⟩) hpl).trans p4⟩;rw[exN_out])|(refine step_append_any rfl (.tmp 14) (.tmp 16) 35 rfl 3 ii (.int .i64 0) 1 8 Tryz.underlying35 hii hzi0 hzi1 hzi2 rfl (by decide) (fun _=>0) 5 _ 0 [] (by simp[Act.eval,Act.put]) (Row.nil _ _ _ _ _) ac cells.length cc (cells.map (Value.int .i64)) (by simp[Act.eval,Act.put]) (by simp) (inA_news (hc1.below Bw)) hone q1 q2 ?_;intro a3 c3 w3 o3 R3 s3;simp only[Nat.zero_add,List.nil_append] at R3;try simp only[Nat.zero_add];have b3:Below w1.heap.size w1 w3:=Bw.trans ((⟨s3.os,s3.tape,s3.output,s3.size,fun k hk=>s3.block k hk (by decide)⟩:Below w2.heap.size w2 w3).mono Bw.size);have k3:w3.cell? ⟨n0,0,none⟩=some (.int .i64 e.k)/\w3.cell? ⟨n0,1,none⟩=some (.int .i64 e.n)/\w3.cell? ⟨n0,2,none⟩=some (stv e.nm)/\w3.cell? ⟨n0,3,none⟩=some (.slice ao e.kids.len cap)/\w3.cell? ⟨n0,4,none⟩=some (.slice ac cells.length cc):=⟨(b3.cell (p:=⟨n0,0,none⟩) hpl).trans p0,(b3.cell (p:=⟨n0,1,none⟩) hpl).trans p1,(b3.cell (p:=⟨n0,2,none⟩) hpl).trans p2,(b3.cell (p:=⟨n0,3,none⟩) hpl).trans p3,(b3.cell (p:=⟨n0,4,none⟩) hpl).trans p4⟩;have Z3:=(b3.block _ hz1).trans Z1;obtain⟨z0,z1,z2,z3,z4,zf⟩:=box5 Z3)))
  all_goals (
   have HU:Hid (∃wz,wz=(((((w3.setCell ⟨n0+1,0,none⟩ (.int .i64 Y.k)).setCell ⟨n0+1,1,none⟩ (.int .i64 Y.n)).setCell ⟨n0+1,2,none⟩ (stv Y.nm)).setCell ⟨n0+1,3,none⟩ (.slice ay Y.kids.len cy)).setCell ⟨n0+1,4,none⟩ (.slice a3 cells.length c3))/\wz.cell? ⟨n0+1,0,none⟩=some (.int .i64 Y.k)/\wz.cell? ⟨n0+1,1,none⟩=some (.int .i64 Y.n)/\wz.cell? ⟨n0+1,2,none⟩=some (stv Y.nm)/\wz.cell? ⟨n0+1,3,none⟩=some (.slice ay Y.kids.len cy)/\wz.cell? ⟨n0+1,4,none⟩=some (.slice a3 cells.length c3)/\PasV w Y cells 0 (.returned (.tuple #[plV Y ay cy (.slice a3 cells.length c3),.int .i64 0])) wz):=by
    obtain⟨u0,u1,u2,u3,u4,-⟩:=box5 (set5k (.int .i64 Y.k) (.int .i64 Y.n) (stv Y.nm) (.slice ay Y.kids.len cy) (.slice a3 cells.length c3) Z3);exact⟨_,rfl,u0,u1,u2,u3,u4,foldp_end HB.out B1 hz1 Bw S2 R3 s3⟩
   clear S2 R3 s3 b3 Bw;go_wp2;obtain⟨wz,hwz,v0,v1,v2,v3,v4,PZ⟩:=HU.out;rw[<-hwz];exact bodyPost_ret (v:=.tuple #[plV Y ay cy (.slice a3 cells.length c3),.int .i64 0]) (by simp[results,Tryz.results16,go_sem,v0,v1,v2,v3,v4,plV]) rfl (HE.out _ _ PZ))
def FitR (e:Ex):Prop:=FitN e/\In64 e.n/\e.kids.rng
theorem con_fit (k v:Int):FitN ⟨k,v,[],0,.nil⟩:=⟨by simp,by show 0<=_;omega,trivial⟩
theorem noEx_fit:FitN noEx:=⟨by simp[noEx],by show 0<=_;omega,trivial⟩
theorem head_fit:∀ {f:Fs},f.short->FitN f.head
 | ⟨none⟩,h=>noEx_fit
 | ⟨some ⟨k,n,nm,a,ks,r⟩⟩,h=>⟨h.1,h.2.1,h.2.2.1⟩
theorem kid_fit {e:Ex}(h:FitN e)(i:Nat):FitN (e.kid i):=by
 have hs:=h.sh;unfold Ex.kid;generalize e.kids=f at *
 match i,f,hs with
 | 0,f,hs=>exact head_fit hs
 | 1,⟨some ⟨_,_,_,_,_,r⟩⟩,hs=>exact head_fit hs.2.2.2
 | 2,⟨some ⟨_,_,_,_,_,⟨some ⟨_,_,_,_,_,r⟩⟩⟩⟩,hs=>exact head_fit hs.2.2.2.2.2.2
 | 1,⟨none⟩,hs=>exact noEx_fit
 | 2,⟨none⟩,hs=>exact noEx_fit
 | 2,⟨some ⟨_,_,_,_,_,⟨none⟩⟩⟩,hs=>exact noEx_fit
 | n+3,f,hs=>exact noEx_fit
theorem opE_fit {e x y:Ex}(he:FitN e)(hx:FitN x)(hy:FitN y):FitN (opE e x y):=by
 unfold opE;split
 ·exact con_fit _ _
 ·split
  ·split
   ·exact head_fit hx.sh
   ·exact he
  ·split
   ·exact hy
   ·split
    ·exact hx
    ·split
     ·exact hy
     ·split
      ·exact hx
      ·exact he
theorem unE_fit {e:Ex}(he:FitN e):FitN (unE e):=by
 unfold unE;split
 ·exact con_fit _ _
 ·split
  ·exact con_fit _ _
  ·split
   ·exact con_fit _ _
   ·exact he
theorem coE_fit {e x y:Ex}{s:Int}(he:FitN e)(hx:FitN x)(hy:FitN y):FitN (coE e x y s):=by
 unfold coE;split
 ·exact hx
 ·split
  ·exact hy
  ·split
   ·exact hx
   ·exact he
theorem chE_fit {e x y z:Ex}(he:FitN e)(hy:FitN y)(hz:FitN z):FitN (chE e x y z):=by
 unfold chE;split
 ·exact hy
 ·split
  ·exact hz
  ·exact he
theorem qnE_fit {e x y:Ex}(he:FitN e):FitN (qnE e x y):=by
 unfold qnE;split
 ·exact unE_fit he
 ·exact he
theorem rulP_fit {e:Ex}(h:FitN e):FitN (rulP e):=by
 have k0:=kid_fit h 0;have k1:=kid_fit h 1;have k2:=kid_fit h 2;unfold rulP;split
 ·refine opE_fit h k0 ?_;split
  ·exact k0
  ·exact k1
 ·split
  ·exact coE_fit h k0 k1
  ·split
   ·exact coE_fit h k0 k1
   ·split
    ·exact chE_fit h k1 k2
    ·split
     ·exact qnE_fit h
     ·split
      ·split
       ·exact k0
       ·exact h
      ·exact h
theorem fldF_short:∀ {f:Fs},f.short->(fldF rulP f).short
 | ⟨none⟩,h=>trivial
 | ⟨some ⟨k,n,nm,a,ks,r⟩⟩,h=>by
  have h1:=fldF_short (f:=ks) h.2.2.1;have h2:=fldF_short (f:=r) h.2.2.2;have h3:FitN (rulP ⟨k,n,nm,0,fldF rulP ks⟩):=rulP_fit ⟨h.1,by show (fldF rulP ks).len<=_;rw[fldF_len];exact h.2.1,h1⟩;exact⟨h3.nm,h3.len,h3.sh,h2⟩
theorem fldE_fit {e:Ex}(h:FitN e):FitN (fldE rulP e):=rulP_fit ⟨h.nm,by show (fldF rulP e.kids).len<=_;rw[fldF_len];exact h.len,fldF_short h.sh⟩
theorem fld_pas_len {b:Bool}{cells:List Int}:(pasC b cells).length<=cells.length:=by
 unfold pasC;split
 ·exact Nat.le_refl _
 ·exact Nat.zero_le _
theorem lastI_in:∀ (l:List (List UInt8)) (nm:List UInt8) (i:Nat) (d:Int),In64 d->i+l.length<=9000000000->In64 (lastI l nm i d)
 | [],nm,i,d,h,_=>h
 | b::r,nm,i,d,h,hl=>by
  have hl:i+(r.length+1)<=9000000000:=hl;refine lastI_in r nm (i+1) _ ?_ (by omega);split
  ·unfold In64;omega
  ·exact h
theorem innB_len (pk:Int)(pn:List UInt8)(i:Nat)(bd:List (List UInt8)):(innB pk pn i bd).length<=bd.length+1:=by
 unfold innB;split
 ·simp
 ·omega
theorem ofF_rng:∀ (f:Fs) (pk:Int) (pn:List UInt8) (i:Nat) (bd:List (List UInt8)),f.rng->bd.length+f.size<=8000000000->(ofF f pk pn i bd).rng
 | ⟨none⟩,pk,pn,i,bd,h,_=>trivial
 | ⟨some ⟨k,n,nm,a,ks,r⟩⟩,pk,pn,i,bd,h,hl=>by
  have hl:bd.length+(ks.size+r.size+1)<=8000000000:=hl;have hi:=innB_len pk pn i bd;have h2:=ofF_rng r pk pn (i+1) bd h.2.2.2 (by omega);have h1:=ofF_rng ks k nm 0 (innB pk pn i bd) h.2.2.1 (by omega);unfold ofF;split
  ·have h3:=lastI_in (innB pk pn i bd) nm 0 n ⟨h.1,h.2.1⟩ (by omega);exact⟨h3.1,h3.2,trivial,h2⟩
  ·exact⟨h.1,h.2.1,h1,h2⟩
theorem ofE_rng {e:Ex}(bd:List (List UInt8))(hn:In64 e.n)(h:e.kids.rng)(hl:bd.length+e.kids.size<=8000000000):In64 (ofE e bd).n/\(ofE e bd).kids.rng:=by
 unfold ofE;split
 ·exact⟨lastI_in bd e.nm 0 e.n hn (by omega),trivial⟩
 ·exact⟨hn,ofF_rng _ _ _ _ _ h hl⟩
end Go.Proofs.YtaihhnlfcndecaaGreatDoor
