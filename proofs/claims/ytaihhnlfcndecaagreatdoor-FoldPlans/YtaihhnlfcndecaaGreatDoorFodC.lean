import Derived.Test.YtaihhnlfcndecaaGreatDoorFodB
set_option maxRecDepth 100000
set_option maxHeartbeats 8000000
namespace Go.Proofs.YtaihhnlfcndecaaGreatDoor
open Go.ChangeShapes Go.WideShapes Go.ChangeAt Go.RowKit
set_option linter.unusedVariables false
set_option linter.unusedSimpArgs false
theorem quant15_c (e x y:Ex)(ao:Option Addr)(cap:Nat)(P:Nat->Prop)(w:World)(hk:e.kids=Fs.ex x (Fs.ex y .nil))(S:SlcN w P e.kids ao cap) :
  Calls Tryz.prog 73 #[exN e ao cap] w (PostRu w w P (qdE e x y)):=by
 have S2:=S;rw[hk] at S2;obtain ⟨b,a0,c0,hao,hb,x0,x1,x2,x3,SX⟩:=SlcN.kidM (d:=.nil) (y:=x) S2;obtain ⟨b',a1,c1,hao2,-,y0,y1,y2,y3,SY⟩:=SlcN.kidM (d:=Fs.ex x .nil) (y:=y) (r:=.nil) S2;rw[hao] at hao2;injection hao2 with hao2
 injection hao2 with hao2
 subst hao2;have hl1:(1:Int)<(e.kids.len:Int):=by rw[hk];show (1:Int)<((2:Nat):Int);decide
 subst hao;have hl0:(0:Int)<(e.kids.len:Int):=by rw[hk];show (0:Int)<((2:Nat):Int);decide
 obtain ⟨w0,hw0⟩:∃w0,w0=(w.alloc (.cells #[.int .i64 e.k,.int .i64 e.n,stv e.nm,.slice (some ⟨b,0,none⟩) e.kids.len cap] 34)).alloc (.cells #[.int .i64 0,.int .i64 0,.string ⟨#[]⟩,.slice none 0 0] 34):=⟨_,rfl⟩;have B0:Below w.heap.size w w0:=by rw[hw0];exact ((Below.refl _ w).alloc (Nat.le_refl _) _).alloc (by simp) _
 have E0:w0.heap[w.heap.size]?=some (.cells #[.int .i64 e.k,.int .i64 e.n,stv e.nm,.slice (some ⟨b,0,none⟩) e.kids.len cap] 34 (0,0)):=by rw[hw0];exact (Below.heap_alloc _ _ _ (by simp)).trans (heap_alloc_new w _)
 have Z0:w0.heap[w.heap.size+1]?=some (.cells #[.int .i64 0,.int .i64 0,.string ⟨#[]⟩,.slice none 0 0] 34 (0,0)):=by
  rw[hw0]
  have:=heap_alloc_new (w.alloc (.cells #[.int .i64 e.k,.int .i64 e.n,stv e.nm,.slice (some ⟨b,0,none⟩) e.kids.len cap] 34)) (.cells #[.int .i64 0,.int .i64 0,.string ⟨#[]⟩,.slice none 0 0] 34)
  simpa using this
 clear S2 hk;rw[exN_out];go_enter Tryz.func73,Tryz.ntmps73;go_upto_region 1 with fail;rw[<-hw0];obtain ⟨bx,hbx⟩:∃bx,bx=w.heap.size:=⟨_,rfl⟩;rw[<-hbx] at E0 Z0 B0 hb
 try rw[<-hbx]
 have HB:Hid (bx=w.heap.size):=hbx;clear hbx hw0;have hlx:(Fs.len (.nil:Fs))=0:=rfl;rw[hlx] at x0 x1 x2 x3;have x0:=(B0.cell (p:=⟨b,0*4,none⟩) hb).trans x0;have x1:=(B0.cell (p:=⟨b,0*4+1,none⟩) hb).trans x1;have x2:=(B0.cell (p:=⟨b,0*4+2,none⟩) hb).trans x2;have x3:=(B0.cell (p:=⟨b,0*4+3,none⟩) hb).trans x3;simp only[Nat.zero_mul,Nat.zero_add,Nat.one_mul,Nat.reduceAdd] at x0 x1 x2 x3;have hly:(Fs.len (Fs.ex x .nil))=1:=rfl;rw[hly] at y0 y1 y2 y3;have y0:=(B0.cell (p:=⟨b,1*4,none⟩) hb).trans y0;have y1:=(B0.cell (p:=⟨b,1*4+1,none⟩) hb).trans y1;have y2:=(B0.cell (p:=⟨b,1*4+2,none⟩) hb).trans y2;have y3:=(B0.cell (p:=⟨b,1*4+3,none⟩) hb).trans y3;simp only[Nat.zero_mul,Nat.zero_add,Nat.one_mul,Nat.reduceAdd] at y0 y1 y2 y3;have hb0:b<w0.heap.size:=Nat.lt_trans hb (lt_of_block E0);obtain ⟨p0,p1,p2,p3,pf⟩:=box4 E0;have l1:bx<w0.heap.size:=lt_of_block E0;have l2:bx<w0.heap.size+1:=Nat.lt_succ_of_lt l1;have l3:b<w0.heap.size+1:=Nat.lt_succ_of_lt hb0;go_upto_region 3 with fail;obtain ⟨w1,hw1⟩:∃w1,w1=(w0.alloc (.cells #[.int .i64 x.k,.int .i64 x.n,stv x.nm,.slice a0 x.kids.len c0] 34)).alloc (.cells #[.int .i64 y.k,.int .i64 y.n,stv y.nm,.slice a1 y.kids.len c1] 34):=⟨_,rfl⟩;obtain ⟨p,hp⟩:∃p,p=w0.heap.size:=⟨_,rfl⟩;obtain ⟨q,hq⟩:∃q,q=w0.heap.size+1:=⟨_,rfl⟩;have B1:Below bx w w1:=by rw[hw1];exact (B0.alloc (Nat.le_of_lt l1) _).alloc (by simp;omega) _
 have D1:Below w0.heap.size w0 w1:=by rw[hw1];exact ((Below.refl _ w0).alloc (Nat.le_refl _) _).alloc (by simp) _
 have L1:w1.heap[p]?=some (.cells #[.int .i64 x.k,.int .i64 x.n,stv x.nm,.slice a0 x.kids.len c0] 34 (0,0)):=by
  rw[hw1,hp];exact (Below.heap_alloc _ _ _ (by simp)).trans (heap_alloc_new w0 _)
 have R1:w1.heap[q]?=some (.cells #[.int .i64 y.k,.int .i64 y.n,stv y.nm,.slice a1 y.kids.len c1] 34 (0,0)):=by
  rw[hw1,hq]
  have:=heap_alloc_new (w0.alloc (.cells #[.int .i64 x.k,.int .i64 x.n,stv x.nm,.slice a0 x.kids.len c0] 34)) (.cells #[.int .i64 y.k,.int .i64 y.n,stv y.nm,.slice a1 y.kids.len c1] 34)
  rw[show (w0.alloc (.cells #[.int .i64 x.k,.int .i64 x.n,stv x.nm,.slice a0 x.kids.len c0] 34)).heap.size=w0.heap.size+1 by simp] at this
  exact this
 have E1:=(D1.block bx l1).trans E0;have Z1:=(D1.block (bx+1) (lt_of_block Z0)).trans Z0;rw[<-hw1,<-hq,<-hp];clear hw1 hp hq D1 B0 E0 Z0 l1 l2 l3 hb0 hb p0 p1 p2 p3 pf x0 x1 x2 x3 y0 y1 y2 y3;have hnn:(((x.k==25)=true/\((x.kids.len:Int)==0)=true)/\(x.k=25/\x.kids.len=0))\/(((x.k==25)=false\/((x.k==25)=true/\((x.kids.len:Int)==0)=false))/\¬(x.k=25/\x.kids.len=0)):=by
  by_cases h1:x.k=25
  ·by_cases h2:x.kids.len=0
   ·exact .inl ⟨⟨by simpa using h1,by simp[h2]⟩,h1,h2⟩
   ·exact .inr ⟨.inr ⟨by simpa using h1,by simp;omega⟩,fun h=>h2 h.2⟩
  ·exact .inr ⟨.inl (by simpa using h1),fun h=>h1 h.1⟩
 have hen:e.n=1\/e.n=2\/e.n=3\/e.n=4\/(e.n≠1/\e.n≠2/\e.n≠3/\e.n≠4):=by omega
 rcases hen with en|en|en|en|en
 focus
  have n1:(e.n==1)=true:=by simp;omega
  have n2:(e.n==2)=false:=by simp;omega
  have n3:(e.n==3)=false:=by simp;omega
  have n4:(e.n==4)=false:=by simp;omega
  rcases hnn with ⟨tn,hn⟩|⟨tn,hn⟩
  ·have hans:Hid (qdE e x y=truE true):=by show _=_;unfold qdE;rw[if_pos ⟨en,.inl hn⟩]
   rcases tn with ⟨tk,tl⟩
   clear en hn;have hc:Calls Tryz.prog _ _ _ (fun xx w'=>xx=.returned (.agg #[.int .i64 2,.int .i64 (1),.string ⟨#[]⟩,.slice none 0 0])/\Below _ _ w'):=truthr_c true w1
   obtain ⟨p0,p1,p2,p3,pf⟩:=box4 E1;obtain ⟨r0,r1,r2,r3,rf⟩:=box4 L1;obtain ⟨s0,s1,s2,s3,sf⟩:=box4 R1;go_wp2_with fail;refine hc.mono ?_;rintro u w9 ⟨rfl,b9⟩;have B9:Below bx w w9:=B1.trans (b9.mono (Nat.le_of_lt (lt_of_block E1)));have Z1:=(b9.block _ (lt_of_block Z1)).trans Z1;have HU:=rule_hc 2 (1) Z1 B9;obtain ⟨z0,z1,z2,z3,zf⟩:=box4 Z1;clear hc b9 Z1 E1 L1 R1 B9 p0 p1 p2 p3 pf r0 r1 r2 r3 rf s0 s1 s2 s3 sf;go_wp2;obtain ⟨wz,hwz,v0,v1,v2,v3,BZ⟩:=HU.out;rw[<-hwz];rw[HB.out] at BZ;exact bodyPost_ret (v:=.agg #[.int .i64 2,.int .i64 (1),.string ⟨#[]⟩,.slice none 0 0]) (by simp[results,Tryz.results73,go_sem,v0,v1,v2,v3]) rfl ⟨none,0,by rw[hans.out];rfl,by rw[hans.out];exact SlcN.nil _ _,BZ⟩
  ·by_cases h22:x.k=22
   ·have t22:(x.k==22)=true:=by simpa using h22
    have t25:(x.k==25)=false:=by simp;omega
    have hc:=isr_c y a1 c1 2 1 w1
    try rw[exN_out] at hc
    obtain ⟨p0,p1,p2,p3,pf⟩:=box4 E1;obtain ⟨r0,r1,r2,r3,rf⟩:=box4 L1;obtain ⟨s0,s1,s2,s3,sf⟩:=box4 R1;go_wp2_with fail;refine hc.mono ?_;rintro u w2 ⟨rfl,b2⟩;obtain ⟨B2,E1,L1,R1,Z1⟩:=bxs B1 b2 E1 L1 R1 Z1;clear hc b2 p0 p1 p2 p3 pf r0 r1 r2 r3 rf s0 s1 s2 s3 sf B1;cases hy0:isE y 2 1 with
    | true =>
     have hans:Hid (qdE e x y=truE true):=by show _=_;unfold qdE;simp[en,h22,hy0]
     clear en hn h22 hy0;have hc:Calls Tryz.prog _ _ _ (fun xx w'=>xx=.returned (.agg #[.int .i64 2,.int .i64 (1),.string ⟨#[]⟩,.slice none 0 0])/\Below _ _ w'):=truthr_c true w2
     obtain ⟨p0,p1,p2,p3,pf⟩:=box4 E1;obtain ⟨r0,r1,r2,r3,rf⟩:=box4 L1;obtain ⟨s0,s1,s2,s3,sf⟩:=box4 R1;go_wp2_with fail;refine hc.mono ?_;rintro u w9 ⟨rfl,b9⟩;have B9:Below bx w w9:=B2.trans (b9.mono (Nat.le_of_lt (lt_of_block E1)));have Z1:=(b9.block _ (lt_of_block Z1)).trans Z1;have HU:=rule_hc 2 (1) Z1 B9;obtain ⟨z0,z1,z2,z3,zf⟩:=box4 Z1;clear hc b9 Z1 E1 L1 R1 B9 p0 p1 p2 p3 pf r0 r1 r2 r3 rf s0 s1 s2 s3 sf;go_wp2;obtain ⟨wz,hwz,v0,v1,v2,v3,BZ⟩:=HU.out;rw[<-hwz];rw[HB.out] at BZ;exact bodyPost_ret (v:=.agg #[.int .i64 2,.int .i64 (1),.string ⟨#[]⟩,.slice none 0 0]) (by simp[results,Tryz.results73,go_sem,v0,v1,v2,v3]) rfl ⟨none,0,by rw[hans.out];rfl,by rw[hans.out];exact SlcN.nil _ _,BZ⟩
    | false =>
     have hans:Hid (qdE e x y=e):=by show _=_;unfold qdE;simp[en,h22,hy0]
     clear en hn h22 hy0;have HU:=rule_hu e (some ⟨b,0,none⟩) cap Z1 B2;obtain ⟨p0,p1,p2,p3,pf⟩:=box4 E1;obtain ⟨r0,r1,r2,r3,rf⟩:=box4 L1;obtain ⟨s0,s1,s2,s3,sf⟩:=box4 R1;obtain ⟨z0,z1,z2,z3,zf⟩:=box4 Z1;clear Z1 E1 L1 R1;go_wp2;obtain ⟨wz,hwz,v0,v1,v2,v3,BZ⟩:=HU.out;rw[<-hwz];rw[HB.out] at BZ;exact bodyPost_ret (v:=exN e (some ⟨b,0,none⟩) cap) (by simp[results,Tryz.results73,go_sem,v0,v1,v2,v3,exN]) rfl ⟨(some ⟨b,0,none⟩),cap,by rw[hans.out],by rw[hans.out];exact S,BZ⟩
   ·have t22:(x.k==22)=false:=by simpa using h22
    have hans:Hid (qdE e x y=e):=by
     show _=_
     unfold qdE;rw[if_neg (fun h=>by rcases h.2 with h|h;exact hn h;exact h22 h.1),if_neg (fun h=>by rcases h.2 with h|h;exact hn h;exact h22 h.1),if_neg (fun h=>by rcases h.2 with h|h;exact hn h;exact h22 h.1),if_neg (fun h=>hn h.2)]
    clear en hn h22;rcases tn with tk|⟨tk,tl⟩
    all_goals (
     have HU:=rule_hu e (some ⟨b,0,none⟩) cap Z1 B1;obtain ⟨p0,p1,p2,p3,pf⟩:=box4 E1;obtain ⟨r0,r1,r2,r3,rf⟩:=box4 L1;obtain ⟨s0,s1,s2,s3,sf⟩:=box4 R1;obtain ⟨z0,z1,z2,z3,zf⟩:=box4 Z1;clear Z1 E1 L1 R1;go_wp2;obtain ⟨wz,hwz,v0,v1,v2,v3,BZ⟩:=HU.out;rw[<-hwz];rw[HB.out] at BZ;exact bodyPost_ret (v:=exN e (some ⟨b,0,none⟩) cap) (by simp[results,Tryz.results73,go_sem,v0,v1,v2,v3,exN]) rfl ⟨(some ⟨b,0,none⟩),cap,by rw[hans.out],by rw[hans.out];exact S,BZ⟩)
 focus
  have n1:(e.n==1)=false:=by simp;omega
  have n2:(e.n==2)=true:=by simp;omega
  have n3:(e.n==3)=false:=by simp;omega
  have n4:(e.n==4)=false:=by simp;omega
  rcases hnn with ⟨tn,hn⟩|⟨tn,hn⟩
  ·have hans:Hid (qdE e x y=truE false):=by show _=_;unfold qdE;simp[en,hn]
   rcases tn with ⟨tk,tl⟩
   clear en hn;have hc:Calls Tryz.prog _ _ _ (fun xx w'=>xx=.returned (.agg #[.int .i64 2,.int .i64 (0),.string ⟨#[]⟩,.slice none 0 0])/\Below _ _ w'):=truthr_c false w1
   obtain ⟨p0,p1,p2,p3,pf⟩:=box4 E1;obtain ⟨r0,r1,r2,r3,rf⟩:=box4 L1;obtain ⟨s0,s1,s2,s3,sf⟩:=box4 R1;go_wp2_with fail;refine hc.mono ?_;rintro u w9 ⟨rfl,b9⟩;have B9:Below bx w w9:=B1.trans (b9.mono (Nat.le_of_lt (lt_of_block E1)));have Z1:=(b9.block _ (lt_of_block Z1)).trans Z1;have HU:=rule_hc 2 (0) Z1 B9;obtain ⟨z0,z1,z2,z3,zf⟩:=box4 Z1;clear hc b9 Z1 E1 L1 R1 B9 p0 p1 p2 p3 pf r0 r1 r2 r3 rf s0 s1 s2 s3 sf;go_wp2;obtain ⟨wz,hwz,v0,v1,v2,v3,BZ⟩:=HU.out;rw[<-hwz];rw[HB.out] at BZ;exact bodyPost_ret (v:=.agg #[.int .i64 2,.int .i64 (0),.string ⟨#[]⟩,.slice none 0 0]) (by simp[results,Tryz.results73,go_sem,v0,v1,v2,v3]) rfl ⟨none,0,by rw[hans.out];rfl,by rw[hans.out];exact SlcN.nil _ _,BZ⟩
  ·by_cases h22:x.k=22
   ·have t22:(x.k==22)=true:=by simpa using h22
    have t25:(x.k==25)=false:=by simp;omega
    have hc:=isr_c y a1 c1 2 0 w1
    try rw[exN_out] at hc
    obtain ⟨p0,p1,p2,p3,pf⟩:=box4 E1;obtain ⟨r0,r1,r2,r3,rf⟩:=box4 L1;obtain ⟨s0,s1,s2,s3,sf⟩:=box4 R1;go_wp2_with fail;refine hc.mono ?_;rintro u w2 ⟨rfl,b2⟩;obtain ⟨B2,E1,L1,R1,Z1⟩:=bxs B1 b2 E1 L1 R1 Z1;clear hc b2 p0 p1 p2 p3 pf r0 r1 r2 r3 rf s0 s1 s2 s3 sf B1;cases hy0:isE y 2 0 with
    | true =>
     have hans:Hid (qdE e x y=truE false):=by show _=_;unfold qdE;simp[en,h22,hy0]
     clear en hn h22 hy0;have hc:Calls Tryz.prog _ _ _ (fun xx w'=>xx=.returned (.agg #[.int .i64 2,.int .i64 (0),.string ⟨#[]⟩,.slice none 0 0])/\Below _ _ w'):=truthr_c false w2
     obtain ⟨p0,p1,p2,p3,pf⟩:=box4 E1;obtain ⟨r0,r1,r2,r3,rf⟩:=box4 L1;obtain ⟨s0,s1,s2,s3,sf⟩:=box4 R1;go_wp2_with fail;refine hc.mono ?_;rintro u w9 ⟨rfl,b9⟩;have B9:Below bx w w9:=B2.trans (b9.mono (Nat.le_of_lt (lt_of_block E1)));have Z1:=(b9.block _ (lt_of_block Z1)).trans Z1;have HU:=rule_hc 2 (0) Z1 B9;obtain ⟨z0,z1,z2,z3,zf⟩:=box4 Z1;clear hc b9 Z1 E1 L1 R1 B9 p0 p1 p2 p3 pf r0 r1 r2 r3 rf s0 s1 s2 s3 sf;go_wp2;obtain ⟨wz,hwz,v0,v1,v2,v3,BZ⟩:=HU.out;rw[<-hwz];rw[HB.out] at BZ;exact bodyPost_ret (v:=.agg #[.int .i64 2,.int .i64 (0),.string ⟨#[]⟩,.slice none 0 0]) (by simp[results,Tryz.results73,go_sem,v0,v1,v2,v3]) rfl ⟨none,0,by rw[hans.out];rfl,by rw[hans.out];exact SlcN.nil _ _,BZ⟩
    | false =>
     have hans:Hid (qdE e x y=e):=by show _=_;unfold qdE;simp[en,h22,hy0]
     clear en hn h22 hy0;have HU:=rule_hu e (some ⟨b,0,none⟩) cap Z1 B2;obtain ⟨p0,p1,p2,p3,pf⟩:=box4 E1;obtain ⟨r0,r1,r2,r3,rf⟩:=box4 L1;obtain ⟨s0,s1,s2,s3,sf⟩:=box4 R1;obtain ⟨z0,z1,z2,z3,zf⟩:=box4 Z1;clear Z1 E1 L1 R1;go_wp2;obtain ⟨wz,hwz,v0,v1,v2,v3,BZ⟩:=HU.out;rw[<-hwz];rw[HB.out] at BZ;exact bodyPost_ret (v:=exN e (some ⟨b,0,none⟩) cap) (by simp[results,Tryz.results73,go_sem,v0,v1,v2,v3,exN]) rfl ⟨(some ⟨b,0,none⟩),cap,by rw[hans.out],by rw[hans.out];exact S,BZ⟩
   ·have t22:(x.k==22)=false:=by simpa using h22
    have hans:Hid (qdE e x y=e):=by
     show _=_
     unfold qdE;rw[if_neg (fun h=>by rcases h.2 with h|h;exact hn h;exact h22 h.1),if_neg (fun h=>by rcases h.2 with h|h;exact hn h;exact h22 h.1),if_neg (fun h=>by rcases h.2 with h|h;exact hn h;exact h22 h.1),if_neg (fun h=>hn h.2)]
    clear en hn h22;rcases tn with tk|⟨tk,tl⟩
    all_goals (
     have HU:=rule_hu e (some ⟨b,0,none⟩) cap Z1 B1;obtain ⟨p0,p1,p2,p3,pf⟩:=box4 E1;obtain ⟨r0,r1,r2,r3,rf⟩:=box4 L1;obtain ⟨s0,s1,s2,s3,sf⟩:=box4 R1;obtain ⟨z0,z1,z2,z3,zf⟩:=box4 Z1;clear Z1 E1 L1 R1;go_wp2;obtain ⟨wz,hwz,v0,v1,v2,v3,BZ⟩:=HU.out;rw[<-hwz];rw[HB.out] at BZ;exact bodyPost_ret (v:=exN e (some ⟨b,0,none⟩) cap) (by simp[results,Tryz.results73,go_sem,v0,v1,v2,v3,exN]) rfl ⟨(some ⟨b,0,none⟩),cap,by rw[hans.out],by rw[hans.out];exact S,BZ⟩)
 focus
  have n1:(e.n==1)=false:=by simp;omega
  have n2:(e.n==2)=false:=by simp;omega
  have n3:(e.n==3)=true:=by simp;omega
  have n4:(e.n==4)=false:=by simp;omega
  rcases hnn with ⟨tn,hn⟩|⟨tn,hn⟩
  ·have hans:Hid (qdE e x y=numE 0):=by show _=_;unfold qdE;simp[en,hn]
   rcases tn with ⟨tk,tl⟩
   clear en hn;have hc:Calls Tryz.prog _ _ _ (fun xx w'=>xx=.returned (.agg #[.int .i64 1,.int .i64 (0),.string ⟨#[]⟩,.slice none 0 0])/\Below _ _ w'):=number_c 0 w1
   obtain ⟨p0,p1,p2,p3,pf⟩:=box4 E1;obtain ⟨r0,r1,r2,r3,rf⟩:=box4 L1;obtain ⟨s0,s1,s2,s3,sf⟩:=box4 R1;go_wp2_with fail;refine hc.mono ?_;rintro u w9 ⟨rfl,b9⟩;have B9:Below bx w w9:=B1.trans (b9.mono (Nat.le_of_lt (lt_of_block E1)));have Z1:=(b9.block _ (lt_of_block Z1)).trans Z1;have HU:=rule_hc 1 (0) Z1 B9;obtain ⟨z0,z1,z2,z3,zf⟩:=box4 Z1;clear hc b9 Z1 E1 L1 R1 B9 p0 p1 p2 p3 pf r0 r1 r2 r3 rf s0 s1 s2 s3 sf;go_wp2;obtain ⟨wz,hwz,v0,v1,v2,v3,BZ⟩:=HU.out;rw[<-hwz];rw[HB.out] at BZ;exact bodyPost_ret (v:=.agg #[.int .i64 1,.int .i64 (0),.string ⟨#[]⟩,.slice none 0 0]) (by simp[results,Tryz.results73,go_sem,v0,v1,v2,v3]) rfl ⟨none,0,by rw[hans.out];rfl,by rw[hans.out];exact SlcN.nil _ _,BZ⟩
  ·by_cases h22:x.k=22
   ·have t22:(x.k==22)=true:=by simpa using h22
    have t25:(x.k==25)=false:=by simp;omega
    have hc:=isr_c y a1 c1 2 0 w1
    try rw[exN_out] at hc
    obtain ⟨p0,p1,p2,p3,pf⟩:=box4 E1;obtain ⟨r0,r1,r2,r3,rf⟩:=box4 L1;obtain ⟨s0,s1,s2,s3,sf⟩:=box4 R1;go_wp2_with fail;refine hc.mono ?_;rintro u w2 ⟨rfl,b2⟩;obtain ⟨B2,E1,L1,R1,Z1⟩:=bxs B1 b2 E1 L1 R1 Z1;clear hc b2 p0 p1 p2 p3 pf r0 r1 r2 r3 rf s0 s1 s2 s3 sf B1;cases hy0:isE y 2 0 with
    | true =>
     have hans:Hid (qdE e x y=numE 0):=by show _=_;unfold qdE;simp[en,h22,hy0]
     clear en hn h22 hy0;have hc:Calls Tryz.prog _ _ _ (fun xx w'=>xx=.returned (.agg #[.int .i64 1,.int .i64 (0),.string ⟨#[]⟩,.slice none 0 0])/\Below _ _ w'):=number_c 0 w2
     obtain ⟨p0,p1,p2,p3,pf⟩:=box4 E1;obtain ⟨r0,r1,r2,r3,rf⟩:=box4 L1;obtain ⟨s0,s1,s2,s3,sf⟩:=box4 R1;go_wp2_with fail;refine hc.mono ?_;rintro u w9 ⟨rfl,b9⟩;have B9:Below bx w w9:=B2.trans (b9.mono (Nat.le_of_lt (lt_of_block E1)));have Z1:=(b9.block _ (lt_of_block Z1)).trans Z1;have HU:=rule_hc 1 (0) Z1 B9;obtain ⟨z0,z1,z2,z3,zf⟩:=box4 Z1;clear hc b9 Z1 E1 L1 R1 B9 p0 p1 p2 p3 pf r0 r1 r2 r3 rf s0 s1 s2 s3 sf;go_wp2;obtain ⟨wz,hwz,v0,v1,v2,v3,BZ⟩:=HU.out;rw[<-hwz];rw[HB.out] at BZ;exact bodyPost_ret (v:=.agg #[.int .i64 1,.int .i64 (0),.string ⟨#[]⟩,.slice none 0 0]) (by simp[results,Tryz.results73,go_sem,v0,v1,v2,v3]) rfl ⟨none,0,by rw[hans.out];rfl,by rw[hans.out];exact SlcN.nil _ _,BZ⟩
    | false =>
     have hans:Hid (qdE e x y=e):=by show _=_;unfold qdE;simp[en,h22,hy0]
     clear en hn h22 hy0;have HU:=rule_hu e (some ⟨b,0,none⟩) cap Z1 B2;obtain ⟨p0,p1,p2,p3,pf⟩:=box4 E1;obtain ⟨r0,r1,r2,r3,rf⟩:=box4 L1;obtain ⟨s0,s1,s2,s3,sf⟩:=box4 R1;obtain ⟨z0,z1,z2,z3,zf⟩:=box4 Z1;clear Z1 E1 L1 R1;go_wp2;obtain ⟨wz,hwz,v0,v1,v2,v3,BZ⟩:=HU.out;rw[<-hwz];rw[HB.out] at BZ;exact bodyPost_ret (v:=exN e (some ⟨b,0,none⟩) cap) (by simp[results,Tryz.results73,go_sem,v0,v1,v2,v3,exN]) rfl ⟨(some ⟨b,0,none⟩),cap,by rw[hans.out],by rw[hans.out];exact S,BZ⟩
   ·have t22:(x.k==22)=false:=by simpa using h22
    have hans:Hid (qdE e x y=e):=by
     show _=_
     unfold qdE;rw[if_neg (fun h=>by rcases h.2 with h|h;exact hn h;exact h22 h.1),if_neg (fun h=>by rcases h.2 with h|h;exact hn h;exact h22 h.1),if_neg (fun h=>by rcases h.2 with h|h;exact hn h;exact h22 h.1),if_neg (fun h=>hn h.2)]
    clear en hn h22;rcases tn with tk|⟨tk,tl⟩
    all_goals (
     have HU:=rule_hu e (some ⟨b,0,none⟩) cap Z1 B1;obtain ⟨p0,p1,p2,p3,pf⟩:=box4 E1;obtain ⟨r0,r1,r2,r3,rf⟩:=box4 L1;obtain ⟨s0,s1,s2,s3,sf⟩:=box4 R1;obtain ⟨z0,z1,z2,z3,zf⟩:=box4 Z1;clear Z1 E1 L1 R1;go_wp2;obtain ⟨wz,hwz,v0,v1,v2,v3,BZ⟩:=HU.out;rw[<-hwz];rw[HB.out] at BZ;exact bodyPost_ret (v:=exN e (some ⟨b,0,none⟩) cap) (by simp[results,Tryz.results73,go_sem,v0,v1,v2,v3,exN]) rfl ⟨(some ⟨b,0,none⟩),cap,by rw[hans.out],by rw[hans.out];exact S,BZ⟩)
 focus
  have n1:(e.n==1)=false:=by simp;omega
  have n2:(e.n==2)=false:=by simp;omega
  have n3:(e.n==3)=false:=by simp;omega
  have n4:(e.n==4)=true:=by simp;omega
  rcases hnn with ⟨tn,hn⟩|⟨tn,hn⟩
  ·have hans:Hid (qdE e x y=numE 0):=by show _=_;unfold qdE;simp[en,hn]
   rcases tn with ⟨tk,tl⟩
   clear en hn;have hc:Calls Tryz.prog _ _ _ (fun xx w'=>xx=.returned (.agg #[.int .i64 1,.int .i64 (0),.string ⟨#[]⟩,.slice none 0 0])/\Below _ _ w'):=number_c 0 w1
   obtain ⟨p0,p1,p2,p3,pf⟩:=box4 E1;obtain ⟨r0,r1,r2,r3,rf⟩:=box4 L1;obtain ⟨s0,s1,s2,s3,sf⟩:=box4 R1;go_wp2_with fail;refine hc.mono ?_;rintro u w9 ⟨rfl,b9⟩;have B9:Below bx w w9:=B1.trans (b9.mono (Nat.le_of_lt (lt_of_block E1)));have Z1:=(b9.block _ (lt_of_block Z1)).trans Z1;have HU:=rule_hc 1 (0) Z1 B9;obtain ⟨z0,z1,z2,z3,zf⟩:=box4 Z1;clear hc b9 Z1 E1 L1 R1 B9 p0 p1 p2 p3 pf r0 r1 r2 r3 rf s0 s1 s2 s3 sf;go_wp2;obtain ⟨wz,hwz,v0,v1,v2,v3,BZ⟩:=HU.out;rw[<-hwz];rw[HB.out] at BZ;exact bodyPost_ret (v:=.agg #[.int .i64 1,.int .i64 (0),.string ⟨#[]⟩,.slice none 0 0]) (by simp[results,Tryz.results73,go_sem,v0,v1,v2,v3]) rfl ⟨none,0,by rw[hans.out];rfl,by rw[hans.out];exact SlcN.nil _ _,BZ⟩
  ·have hans:Hid (qdE e x y=e):=by
    show _=_
    unfold qdE;rw[if_neg (fun h=>by omega),if_neg (fun h=>by omega),if_neg (fun h=>by omega),if_neg (fun h=>hn h.2)]
   clear en hn;rcases tn with tk|⟨tk,tl⟩
   all_goals (
    have HU:=rule_hu e (some ⟨b,0,none⟩) cap Z1 B1;obtain ⟨p0,p1,p2,p3,pf⟩:=box4 E1;obtain ⟨r0,r1,r2,r3,rf⟩:=box4 L1;obtain ⟨s0,s1,s2,s3,sf⟩:=box4 R1;obtain ⟨z0,z1,z2,z3,zf⟩:=box4 Z1;clear Z1 E1 L1 R1;go_wp2;obtain ⟨wz,hwz,v0,v1,v2,v3,BZ⟩:=HU.out;rw[<-hwz];rw[HB.out] at BZ;exact bodyPost_ret (v:=exN e (some ⟨b,0,none⟩) cap) (by simp[results,Tryz.results73,go_sem,v0,v1,v2,v3,exN]) rfl ⟨(some ⟨b,0,none⟩),cap,by rw[hans.out],by rw[hans.out];exact S,BZ⟩)
 focus
  have n1:(e.n==1)=false:=by simp;omega
  have n2:(e.n==2)=false:=by simp;omega
  have n3:(e.n==3)=false:=by simp;omega
  have n4:(e.n==4)=false:=by simp;omega
  have hans:Hid (qdE e x y=e):=by
   show _=_
   unfold qdE;rw[if_neg (fun h=>by omega),if_neg (fun h=>by omega),if_neg (fun h=>by omega),if_neg (fun h=>by omega)]
  have hx22:(x.k==22)=true\/(x.k==22)=false:=by cases h:(x.k==22);exact .inr rfl;exact .inl rfl
  clear en;rcases hnn with ⟨⟨tk,tl⟩,-⟩|⟨tk|⟨tk,tl⟩,-⟩
  all_goals (
   rcases hx22 with t22|t22
   all_goals (
    have HU:=rule_hu e (some ⟨b,0,none⟩) cap Z1 B1;obtain ⟨p0,p1,p2,p3,pf⟩:=box4 E1;obtain ⟨r0,r1,r2,r3,rf⟩:=box4 L1;obtain ⟨s0,s1,s2,s3,sf⟩:=box4 R1;obtain ⟨z0,z1,z2,z3,zf⟩:=box4 Z1;clear Z1 E1 L1 R1;go_wp2;obtain ⟨wz,hwz,v0,v1,v2,v3,BZ⟩:=HU.out;rw[<-hwz];rw[HB.out] at BZ;exact bodyPost_ret (v:=exN e (some ⟨b,0,none⟩) cap) (by simp[results,Tryz.results73,go_sem,v0,v1,v2,v3,exN]) rfl ⟨(some ⟨b,0,none⟩),cap,by rw[hans.out],by rw[hans.out];exact S,BZ⟩))
end Go.Proofs.YtaihhnlfcndecaaGreatDoor
