import Derived.Test.YtaihhnlfcndecaaGreatDoorRulB
set_option maxRecDepth 100000
set_option maxHeartbeats 8000000
namespace Go.Proofs.YtaihhnlfcndecaaGreatDoor
open Go.ChangeShapes Go.WideShapes Go.ChangeAt Go.RowKit
set_option linter.unusedVariables false
set_option linter.unusedSimpArgs false
def coE (e x y:Ex)(s:Int):Ex:=if isE x 2 s then x else if isE x 2 (1-s) then y else if isE y 2 (1-s) then x else e
theorem connective_c (e x y:Ex)(s:Int)(hs:s=0\/s=1)(ao:Option Addr)(cap:Nat)(P:Nat->Prop)(w:World)(hk:e.kids=.cons x.k x.n x.nm x.a x.kids (.cons y.k y.n y.nm y.a y.kids .nil))(S:SlcN w P e.kids ao cap) :
  Calls Tryz.prog 112 #[exN e ao cap,.int .i64 s] w (PostRu w w P (coE e x y s)):=by
 have hl:e.kids.len=2:=by rw[hk];rfl
 have HL:Hid (e.kids.len=2):=hl;have S1:=S;rw[hk] at S1;obtain⟨b,a0,c0,rfl,hb,x0,x1,x2,x3,SX⟩:=SlcN.kidC (x:=.nil) S1;obtain⟨b',a1,c1,hb1,-,y0,y1,y2,y3,SY⟩:=SlcN.kidC (x:=.cons x.k x.n x.nm x.a x.kids .nil) S1;cases hb1;simp only[Fs.len,Fs.nil,Fs.cons,Nat.zero_mul,Nat.zero_add,Nat.reduceMul,Nat.reduceAdd] at x0 x1 x2 x3 y0 y1 y2 y3;obtain⟨w0,hw0⟩:∃w0,w0=(w.alloc (.cells #[.int .i64 e.k,.int .i64 e.n,stv e.nm,.slice (some ⟨b,0,none⟩) 2 cap] 34)).alloc (.cells #[.int .i64 0,.int .i64 0,.string ⟨#[]⟩,.slice none 0 0] 34):=⟨_,rfl⟩
 have B0:Below w.heap.size w w0:=by rw[hw0];exact((Below.refl _ w).alloc (Nat.le_refl _) _).alloc (by simp) _
 have E0:w0.heap[w.heap.size]?=some (.cells #[.int .i64 e.k,.int .i64 e.n,stv e.nm,.slice (some ⟨b,0,none⟩) 2 cap] 34):=by rw[hw0];exact(Below.heap_alloc _ _ _ (by simp)).trans (heap_alloc_new w _)
 have Z0:w0.heap[w.heap.size+1]?=some (.cells #[.int .i64 0,.int .i64 0,.string ⟨#[]⟩,.slice none 0 0] 34):=by
  rw[hw0]
  have:=heap_alloc_new (w.alloc (.cells #[.int .i64 e.k,.int .i64 e.n,stv e.nm,.slice (some ⟨b,0,none⟩) 2 cap] 34)) (.cells #[.int .i64 0,.int .i64 0,.string ⟨#[]⟩,.slice none 0 0] 34)
  simpa using this
 rw[exN_out,hl];go_enter Tryz.func112,Tryz.ntmps112;go_upto_region 1 with fail;rw[<-hw0];obtain⟨bx,hbx⟩:∃bx,bx=w.heap.size:=⟨_,rfl⟩
 rw[<-hbx] at E0 Z0 B0 hb ⊢;have HB:Hid (bx=w.heap.size):=hbx;clear hbx hw0 S1 hk hl;have x0:=(B0.cell (p:=⟨b,0,none⟩) hb).trans x0;have x1:=(B0.cell (p:=⟨b,1,none⟩) hb).trans x1;have x2:=(B0.cell (p:=⟨b,2,none⟩) hb).trans x2;have x3:=(B0.cell (p:=⟨b,3,none⟩) hb).trans x3;have y0:=(B0.cell (p:=⟨b,4,none⟩) hb).trans y0;have y1:=(B0.cell (p:=⟨b,5,none⟩) hb).trans y1;have y2:=(B0.cell (p:=⟨b,6,none⟩) hb).trans y2;have y3:=(B0.cell (p:=⟨b,7,none⟩) hb).trans y3;have hb0:b<w0.heap.size:=Nat.lt_trans hb (lt_of_block E0);obtain⟨p0,p1,p2,p3,pf⟩:=box4 E0;have l1:bx<w0.heap.size:=lt_of_block E0;have l2:bx<w0.heap.size+1:=Nat.lt_succ_of_lt l1;have l3:b<w0.heap.size+1:=Nat.lt_succ_of_lt hb0;have hs1:-9223372036854775808<=1-s:=by omega
 have hs2:1-s<=9223372036854775807:=by omega
 go_region
 all_goals (
  first
   | (
    obtain⟨w1,hw1⟩:∃w1,w1=((w0.alloc (.cells #[.int .i64 x.k,.int .i64 x.n,.string ⟨x.nm.toArray⟩,.slice a0 x.kids.len c0] 34)).alloc (.cells #[.int .i64 y.k,.int .i64 y.n,.string ⟨y.nm.toArray⟩,.slice a1 y.kids.len c1] 34)).drew:=⟨_,rfl⟩
    obtain⟨p,hp⟩:∃p,p=w0.heap.size:=⟨_,rfl⟩
    obtain⟨q,hq⟩:∃q,q=w0.heap.size+1:=⟨_,rfl⟩
    have B1:Below bx w w1:=by rw[hw1];exact((B0.alloc (Nat.le_of_lt l1) _).alloc (by simp;omega) _).drew
    have D1:Below w0.heap.size w0 w1:=by rw[hw1];exact(((Below.refl _ w0).alloc (Nat.le_refl _) _).alloc (by simp) _).drew
    have E1:=(D1.block bx l1).trans E0;have Z1:=(D1.block (bx+1) (lt_of_block Z0)).trans Z0;have L1:w1.heap[p]?=some (.cells #[.int .i64 x.k,.int .i64 x.n,stv x.nm,.slice a0 x.kids.len c0] 34):=by
     rw[hw1,hp];exact(Below.heap_alloc _ _ _ (by simp)).trans (heap_alloc_new w0 _)
    have R1:w1.heap[q]?=some (.cells #[.int .i64 y.k,.int .i64 y.n,stv y.nm,.slice a1 y.kids.len c1] 34):=by
     rw[hw1,hq];exact by have:=heap_alloc_new (w0.alloc (.cells #[.int .i64 x.k,.int .i64 x.n,.string ⟨x.nm.toArray⟩,.slice a0 x.kids.len c0] 34)) (.cells #[.int .i64 y.k,.int .i64 y.n,.string ⟨y.nm.toArray⟩,.slice a1 y.kids.len c1] 34);rw[show (w0.alloc (.cells #[.int .i64 x.k,.int .i64 x.n,.string ⟨x.nm.toArray⟩,.slice a0 x.kids.len c0] 34)).heap.size=w0.heap.size+1 by simp] at this;exact this
    rw[<-hw1,<-hq,<-hp];clear hw1 hp hq D1 B0 E0 Z0 l1 l2 l3 hb0 hb p0 p1 p2 p3 pf x0 x1 x2 x3 y0 y1 y2 y3)
   | (
    obtain⟨w1,hw1⟩:∃w1,w1=((w0.alloc (.cells #[.int .i64 y.k,.int .i64 y.n,.string ⟨y.nm.toArray⟩,.slice a1 y.kids.len c1] 34)).alloc (.cells #[.int .i64 x.k,.int .i64 x.n,.string ⟨x.nm.toArray⟩,.slice a0 x.kids.len c0] 34)).drew:=⟨_,rfl⟩
    obtain⟨p,hp⟩:∃p,p=w0.heap.size+1:=⟨_,rfl⟩
    obtain⟨q,hq⟩:∃q,q=w0.heap.size:=⟨_,rfl⟩
    have B1:Below bx w w1:=by rw[hw1];exact((B0.alloc (Nat.le_of_lt l1) _).alloc (by simp;omega) _).drew
    have D1:Below w0.heap.size w0 w1:=by rw[hw1];exact(((Below.refl _ w0).alloc (Nat.le_refl _) _).alloc (by simp) _).drew
    have E1:=(D1.block bx l1).trans E0;have Z1:=(D1.block (bx+1) (lt_of_block Z0)).trans Z0;have L1:w1.heap[p]?=some (.cells #[.int .i64 x.k,.int .i64 x.n,stv x.nm,.slice a0 x.kids.len c0] 34):=by
     rw[hw1,hp];exact by have:=heap_alloc_new (w0.alloc (.cells #[.int .i64 y.k,.int .i64 y.n,.string ⟨y.nm.toArray⟩,.slice a1 y.kids.len c1] 34)) (.cells #[.int .i64 x.k,.int .i64 x.n,.string ⟨x.nm.toArray⟩,.slice a0 x.kids.len c0] 34);rw[show (w0.alloc (.cells #[.int .i64 y.k,.int .i64 y.n,.string ⟨y.nm.toArray⟩,.slice a1 y.kids.len c1] 34)).heap.size=w0.heap.size+1 by simp] at this;exact this
    have R1:w1.heap[q]?=some (.cells #[.int .i64 y.k,.int .i64 y.n,stv y.nm,.slice a1 y.kids.len c1] 34):=by
     rw[hw1,hq];exact(Below.heap_alloc _ _ _ (by simp)).trans (heap_alloc_new w0 _)
    rw[<-hw1,<-hp,<-hq];clear hw1 hp hq D1 B0 E0 Z0 l1 l2 l3 hb0 hb p0 p1 p2 p3 pf x0 x1 x2 x3 y0 y1 y2 y3)
  have hc:=istru_c x a0 c0 (s) w1;rw[exN_out] at hc;obtain⟨p0,p1,p2,p3,pf⟩:=box4 L1;go_wp2_with fail;refine hc.mono ?_;rintro u w2 ⟨rfl,b2⟩;obtain⟨B2,E1,L1,R1,Z1⟩:=bxs B1 b2 E1 L1 R1 Z1;clear hc b2 p0 p1 p2 p3 pf B1;cases h1:isE x 2 s with
  | true =>
   have hans:coE e x y s=x:=by simp[coE,h1]
   have HU:=hU4 (.int .i64 x.k) (.int .i64 x.n) (stv x.nm) (.slice a0 x.kids.len c0) Z1 B2;obtain⟨q0,q1,q2,q3,qf⟩:=box4 Z1;obtain⟨p0,p1,p2,p3,pf⟩:=box4 L1;clear Z1 E1 L1 R1;go_wp2;obtain⟨wz,hwz,EZ,BZ⟩:=HU.out;rw[<-hwz];obtain⟨v0,v1,v2,v3,-⟩:=box4 EZ;rw[HB.out] at BZ;exact bodyPost_ret (v:=exN x a0 c0) (by simp[results,Tryz.results112,go_sem,v0,v1,v2,v3,exN]) rfl ⟨a0,c0,by rw[hans],by rw[hans];exact SX,BZ⟩
  | false =>
   have hc:=istru_c x a0 c0 (1-s) w2;rw[exN_out] at hc;obtain⟨p0,p1,p2,p3,pf⟩:=box4 L1;go_wp2_with fail;refine hc.mono ?_;rintro u w3 ⟨rfl,b3⟩;obtain⟨B3,E1,L1,R1,Z1⟩:=bxs B2 b3 E1 L1 R1 Z1;clear hc b3 p0 p1 p2 p3 pf B2;cases h2:isE x 2 (1-s) with
   | true =>
    have hans:coE e x y s=y:=by simp[coE,h1,h2]
    have HU:=hU4 (.int .i64 y.k) (.int .i64 y.n) (stv y.nm) (.slice a1 y.kids.len c1) Z1 B3;obtain⟨q0,q1,q2,q3,qf⟩:=box4 Z1;obtain⟨p0,p1,p2,p3,pf⟩:=box4 R1;clear Z1 E1 L1 R1;go_wp2;obtain⟨wz,hwz,EZ,BZ⟩:=HU.out;rw[<-hwz];obtain⟨v0,v1,v2,v3,-⟩:=box4 EZ;rw[HB.out] at BZ;exact bodyPost_ret (v:=exN y a1 c1) (by simp[results,Tryz.results112,go_sem,v0,v1,v2,v3,exN]) rfl ⟨a1,c1,by rw[hans],by rw[hans];exact SY,BZ⟩
   | false =>
    have hc:=istru_c y a1 c1 (1-s) w3;rw[exN_out] at hc;obtain⟨p0,p1,p2,p3,pf⟩:=box4 R1;go_wp2_with fail;refine hc.mono ?_;rintro u w4 ⟨rfl,b4⟩;obtain⟨B4,E1,L1,R1,Z1⟩:=bxs B3 b4 E1 L1 R1 Z1;clear hc b4 p0 p1 p2 p3 pf B3;cases h3:isE y 2 (1-s) with
    | true =>
     have hans:coE e x y s=x:=by simp[coE,h1,h2,h3]
     have HU:=hU4 (.int .i64 x.k) (.int .i64 x.n) (stv x.nm) (.slice a0 x.kids.len c0) Z1 B4;obtain⟨q0,q1,q2,q3,qf⟩:=box4 Z1;obtain⟨p0,p1,p2,p3,pf⟩:=box4 L1;clear Z1 E1 L1 R1;go_wp2;obtain⟨wz,hwz,EZ,BZ⟩:=HU.out;rw[<-hwz];obtain⟨v0,v1,v2,v3,-⟩:=box4 EZ;rw[HB.out] at BZ;exact bodyPost_ret (v:=exN x a0 c0) (by simp[results,Tryz.results112,go_sem,v0,v1,v2,v3,exN]) rfl ⟨a0,c0,by rw[hans],by rw[hans];exact SX,BZ⟩
    | false =>
     have hans:coE e x y s=e:=by simp[coE,h1,h2,h3]
     have HU:=hU4 (.int .i64 e.k) (.int .i64 e.n) (stv e.nm) (.slice (some ⟨b,0,none⟩) 2 cap) Z1 B4;obtain⟨q0,q1,q2,q3,qf⟩:=box4 Z1;obtain⟨p0,p1,p2,p3,pf⟩:=box4 E1;clear Z1 E1 L1 R1;go_wp2;obtain⟨wz,hwz,EZ,BZ⟩:=HU.out;rw[<-hwz];obtain⟨v0,v1,v2,v3,-⟩:=box4 EZ;rw[HB.out] at BZ;exact bodyPost_ret (v:=exN e (some ⟨b,0,none⟩) cap) (by simp[results,Tryz.results112,go_sem,v0,v1,v2,v3,exN,HL.out]) rfl ⟨(some ⟨b,0,none⟩),cap,by rw[hans],by rw[hans];exact S,BZ⟩)
def unE (e:Ex):Ex:=if e.n=1 then truE true else if e.n=2 then truE false else if e.n=3\/e.n=4 then numE 0 else e
theorem unmoved_c (e:Ex)(ao:Option Addr)(cap:Nat)(P:Nat->Prop)(v w:World)(S:SlcN v P e.kids ao cap) :
  Calls Tryz.prog 167 #[exN e ao cap] w (PostRu v w P (unE e)):=by
 obtain⟨w0,hw0⟩:∃w0,w0=(w.alloc (.cells #[.int .i64 e.k,.int .i64 e.n,stv e.nm,.slice ao e.kids.len cap] 34)).alloc (.cells #[.int .i64 0,.int .i64 0,.string ⟨#[]⟩,.slice none 0 0] 34):=⟨_,rfl⟩
 have B0:Below w.heap.size w w0:=by rw[hw0];exact((Below.refl _ w).alloc (Nat.le_refl _) _).alloc (by simp) _
 have E0:w0.heap[w.heap.size]?=some (.cells #[.int .i64 e.k,.int .i64 e.n,stv e.nm,.slice ao e.kids.len cap] 34):=by rw[hw0];exact(Below.heap_alloc _ _ _ (by simp)).trans (heap_alloc_new w _)
 have Z0:w0.heap[w.heap.size+1]?=some (.cells #[.int .i64 0,.int .i64 0,.string ⟨#[]⟩,.slice none 0 0] 34):=by
  rw[hw0]
  have:=heap_alloc_new (w.alloc (.cells #[.int .i64 e.k,.int .i64 e.n,stv e.nm,.slice ao e.kids.len cap] 34)) (.cells #[.int .i64 0,.int .i64 0,.string ⟨#[]⟩,.slice none 0 0] 34)
  simpa using this
 rw[exN_out];go_enter Tryz.func167,Tryz.ntmps167;go_upto_region 1 with fail;rw[<-hw0];obtain⟨bx,hbx⟩:∃bx,bx=w.heap.size:=⟨_,rfl⟩
 rw[<-hbx] at E0 Z0 B0 ⊢;have HB:Hid (bx=w.heap.size):=hbx;clear hbx hw0;by_cases h1:e.n=1
 ·have hans:unE e=truE true:=by simp[unE,h1]
  have n1:(e.n==1)=true:=by rw[h1];rfl
  have n2:(e.n==2)=false:=by rw[h1];rfl
  have n3:(e.n==3)=false:=by rw[h1];rfl
  have n4:(e.n==4)=false:=by rw[h1];rfl
  clear h1;have HU:=hU4 (.int .i64 2) (.int .i64 1) (.string ⟨#[]⟩) (.slice none 0 0) Z0 B0;obtain⟨q0,q1,q2,q3,qf⟩:=box4 Z0;obtain⟨p0,p1,p2,p3,pf⟩:=box4 E0;clear Z0 E0;go_wp2;obtain⟨wz,hwz,EZ,BZ⟩:=HU.out;rw[<-hwz];obtain⟨v0,v1,v2,v3,-⟩:=box4 EZ;rw[HB.out] at BZ;exact bodyPost_ret (v:=exN (truE true) none 0) (by simp[results,Tryz.results167,go_sem,v0,v1,v2,v3,exN,truE,trI,stv,Fs.nil,Fs.len]) rfl ⟨none,0,by rw[hans],by rw[hans];exact SlcN.nil _ _,BZ⟩
 by_cases h2:e.n=2
 ·have hans:unE e=truE false:=by simp[unE,h2]
  have n1:(e.n==1)=false:=by rw[h2];rfl
  have n2:(e.n==2)=true:=by rw[h2];rfl
  have n3:(e.n==3)=false:=by rw[h2];rfl
  have n4:(e.n==4)=false:=by rw[h2];rfl
  clear h2 h1;have HU:=hU4 (.int .i64 2) (.int .i64 0) (.string ⟨#[]⟩) (.slice none 0 0) Z0 B0;obtain⟨q0,q1,q2,q3,qf⟩:=box4 Z0;obtain⟨p0,p1,p2,p3,pf⟩:=box4 E0;clear Z0 E0;go_wp2;obtain⟨wz,hwz,EZ,BZ⟩:=HU.out;rw[<-hwz];obtain⟨v0,v1,v2,v3,-⟩:=box4 EZ;rw[HB.out] at BZ;exact bodyPost_ret (v:=exN (truE false) none 0) (by simp[results,Tryz.results167,go_sem,v0,v1,v2,v3,exN,truE,trI,stv,Fs.nil,Fs.len]) rfl ⟨none,0,by rw[hans],by rw[hans];exact SlcN.nil _ _,BZ⟩
 by_cases h3:e.n=3
 ·have hans:unE e=numE 0:=by simp[unE,h3]
  have n1:(e.n==1)=false:=by rw[h3];rfl
  have n2:(e.n==2)=false:=by rw[h3];rfl
  have n3:(e.n==3)=true:=by rw[h3];rfl
  have n4:(e.n==4)=false:=by rw[h3];rfl
  clear h3 h1 h2;have HU:=hU4 (.int .i64 1) (.int .i64 0) (.string ⟨#[]⟩) (.slice none 0 0) Z0 B0;obtain⟨q0,q1,q2,q3,qf⟩:=box4 Z0;obtain⟨p0,p1,p2,p3,pf⟩:=box4 E0;clear Z0 E0;go_wp2;obtain⟨wz,hwz,EZ,BZ⟩:=HU.out;rw[<-hwz];obtain⟨v0,v1,v2,v3,-⟩:=box4 EZ;rw[HB.out] at BZ;exact bodyPost_ret (v:=exN (numE 0) none 0) (by simp[results,Tryz.results167,go_sem,v0,v1,v2,v3,exN,numE,stv,Fs.nil,Fs.len]) rfl ⟨none,0,by rw[hans],by rw[hans];exact SlcN.nil _ _,BZ⟩
 by_cases h4:e.n=4
 ·have hans:unE e=numE 0:=by simp[unE,h4]
  have n1:(e.n==1)=false:=by rw[h4];rfl
  have n2:(e.n==2)=false:=by rw[h4];rfl
  have n3:(e.n==3)=false:=by rw[h4];rfl
  have n4:(e.n==4)=true:=by rw[h4];rfl
  clear h4 h1 h2 h3;have HU:=hU4 (.int .i64 1) (.int .i64 0) (.string ⟨#[]⟩) (.slice none 0 0) Z0 B0;obtain⟨q0,q1,q2,q3,qf⟩:=box4 Z0;obtain⟨p0,p1,p2,p3,pf⟩:=box4 E0;clear Z0 E0;go_wp2;obtain⟨wz,hwz,EZ,BZ⟩:=HU.out;rw[<-hwz];obtain⟨v0,v1,v2,v3,-⟩:=box4 EZ;rw[HB.out] at BZ;exact bodyPost_ret (v:=exN (numE 0) none 0) (by simp[results,Tryz.results167,go_sem,v0,v1,v2,v3,exN,numE,stv,Fs.nil,Fs.len]) rfl ⟨none,0,by rw[hans],by rw[hans];exact SlcN.nil _ _,BZ⟩
 have hans:unE e=e:=by simp[unE,h1,h2,h3,h4]
 have n1:(e.n==1)=false:=by simpa using h1
 have n2:(e.n==2)=false:=by simpa using h2
 have n3:(e.n==3)=false:=by simpa using h3
 have n4:(e.n==4)=false:=by simpa using h4
 clear h1 h2 h3 h4;have HU:=hU4 (.int .i64 e.k) (.int .i64 e.n) (stv e.nm) (.slice ao e.kids.len cap) Z0 B0;obtain⟨q0,q1,q2,q3,qf⟩:=box4 Z0;obtain⟨p0,p1,p2,p3,pf⟩:=box4 E0;clear Z0 E0;go_wp2;obtain⟨wz,hwz,EZ,BZ⟩:=HU.out;rw[<-hwz];obtain⟨v0,v1,v2,v3,-⟩:=box4 EZ;rw[HB.out] at BZ;exact bodyPost_ret (v:=exN (e) ao cap) (by simp[results,Tryz.results167,go_sem,v0,v1,v2,v3,exN,exN]) rfl ⟨ao,cap,by rw[hans],by rw[hans];exact S,BZ⟩
def idE (n:Int)(e:Ex):Bool:=if n=1 then isE e 2 1 else if n=2\/n=3 then isE e 2 0 else false
theorem isidle_c (n:Int)(e:Ex)(ao:Option Addr)(cap:Nat)(w:World):Calls Tryz.prog 166 #[.int .i64 n,exN e ao cap] w fun x w'=>x=.returned (.bool (idE n e))/\Below w.heap.size w w':=by
 have B0:Below w.heap.size w (w.alloc (.cells #[.int .i64 e.k,.int .i64 e.n,stv e.nm,.slice ao e.kids.len cap] 34)):=(Below.refl _ w).alloc (Nat.le_refl _) _;have E0:(w.alloc (.cells #[.int .i64 e.k,.int .i64 e.n,stv e.nm,.slice ao e.kids.len cap] 34)).heap[w.heap.size]?=some (.cells #[.int .i64 e.k,.int .i64 e.n,stv e.nm,.slice ao e.kids.len cap] 34):=heap_alloc_new w _;rw[exN_out];go_enter Tryz.func166,Tryz.ntmps166;go_upto_region 1 with fail;generalize w.alloc (.cells #[.int .i64 e.k,.int .i64 e.n,stv e.nm,.slice ao e.kids.len cap] 34)=w0 at *;obtain⟨bx,hbx⟩:∃bx,bx=w.heap.size:=⟨_,rfl⟩
 rw[<-hbx] at E0 B0 ⊢;have HB:Hid (bx=w.heap.size):=hbx;clear hbx;obtain⟨p0,p1,p2,p3,pf⟩:=box4 E0;have hle:bx<=w0.heap.size:=Nat.le_of_lt (lt_of_block E0);by_cases h1:n=1
 ·have hans:idE n e=isE e 2 1:=by simp[idE,h1]
  have hc:=istru_c e ao cap 1 w0;rw[exN_out] at hc;have n1:(n==1)=true:=by rw[h1];rfl
  have n2:(n==2)=false:=by rw[h1];rfl
  have n3:(n==3)=false:=by rw[h1];rfl
  clear h1;go_wp2_with fail;refine hc.mono ?_;rintro u w2 ⟨rfl,b2⟩;go_wp2;go_ret;exact⟨by rw[hans];rfl,by rw[<-HB.out];exact B0.trans (b2.mono hle)⟩
 by_cases h2:n=2
 ·have hans:idE n e=isE e 2 0:=by simp[idE,h2]
  have hc:=istru_c e ao cap 0 w0;rw[exN_out] at hc;have n1:(n==1)=false:=by rw[h2];rfl
  have n2:(n==2)=true:=by rw[h2];rfl
  have n3:(n==3)=false:=by rw[h2];rfl
  clear h1 h2;go_wp2_with fail;refine hc.mono ?_;rintro u w2 ⟨rfl,b2⟩;go_wp2;go_ret;exact⟨by rw[hans];rfl,by rw[<-HB.out];exact B0.trans (b2.mono hle)⟩
 by_cases h3:n=3
 ·have hans:idE n e=isE e 2 0:=by simp[idE,h3]
  have hc:=istru_c e ao cap 0 w0;rw[exN_out] at hc;have n1:(n==1)=false:=by rw[h3];rfl
  have n2:(n==2)=false:=by rw[h3];rfl
  have n3:(n==3)=true:=by rw[h3];rfl
  clear h1 h2 h3;go_wp2_with fail;refine hc.mono ?_;rintro u w2 ⟨rfl,b2⟩;go_wp2;go_ret;exact⟨by rw[hans];rfl,by rw[<-HB.out];exact B0.trans (b2.mono hle)⟩
 have hans:idE n e=false:=by simp[idE,h1,h2,h3]
 have n1:(n==1)=false:=by simpa using h1
 have n2:(n==2)=false:=by simpa using h2
 have n3:(n==3)=false:=by simpa using h3
 clear h1 h2 h3;go_wp2;go_ret;exact⟨by rw[hans];rfl,by rw[<-HB.out];exact B0⟩
def qnE (e x y:Ex):Ex:=if (x.k=25/\x.kids.len=0)\/(x.k=22/\idE e.n y=true) then unE e else e
theorem quantifier_c (e x y:Ex)(ao:Option Addr)(cap:Nat)(P:Nat->Prop)(w:World)(hk:e.kids=.cons x.k x.n x.nm x.a x.kids (.cons y.k y.n y.nm y.a y.kids .nil))(S:SlcN w P e.kids ao cap) :
  Calls Tryz.prog 114 #[exN e ao cap] w (PostRu w w P (qnE e x y)):=by
 have hl:e.kids.len=2:=by rw[hk];rfl
 have HL:Hid (e.kids.len=2):=hl;have S1:=S;rw[hk] at S1;obtain⟨b,a0,c0,rfl,hb,x0,x1,x2,x3,SX⟩:=SlcN.kidC (x:=.nil) S1;obtain⟨b',a1,c1,hb1,-,y0,y1,y2,y3,SY⟩:=SlcN.kidC (x:=.cons x.k x.n x.nm x.a x.kids .nil) S1;cases hb1;simp only[Fs.len,Fs.nil,Fs.cons,Nat.zero_mul,Nat.zero_add,Nat.reduceMul,Nat.reduceAdd] at x0 x1 x2 x3 y0 y1 y2 y3;obtain⟨w0,hw0⟩:∃w0,w0=(w.alloc (.cells #[.int .i64 e.k,.int .i64 e.n,stv e.nm,.slice (some ⟨b,0,none⟩) 2 cap] 34)).alloc (.cells #[.int .i64 0,.int .i64 0,.string ⟨#[]⟩,.slice none 0 0] 34):=⟨_,rfl⟩
 have B0:Below w.heap.size w w0:=by rw[hw0];exact((Below.refl _ w).alloc (Nat.le_refl _) _).alloc (by simp) _
 have E0:w0.heap[w.heap.size]?=some (.cells #[.int .i64 e.k,.int .i64 e.n,stv e.nm,.slice (some ⟨b,0,none⟩) 2 cap] 34):=by rw[hw0];exact(Below.heap_alloc _ _ _ (by simp)).trans (heap_alloc_new w _)
 have Z0:w0.heap[w.heap.size+1]?=some (.cells #[.int .i64 0,.int .i64 0,.string ⟨#[]⟩,.slice none 0 0] 34):=by
  rw[hw0]
  have:=heap_alloc_new (w.alloc (.cells #[.int .i64 e.k,.int .i64 e.n,stv e.nm,.slice (some ⟨b,0,none⟩) 2 cap] 34)) (.cells #[.int .i64 0,.int .i64 0,.string ⟨#[]⟩,.slice none 0 0] 34)
  simpa using this
 rw[exN_out,hl];go_enter Tryz.func114,Tryz.ntmps114;go_upto_region 1 with fail;rw[<-hw0];obtain⟨bx,hbx⟩:∃bx,bx=w.heap.size:=⟨_,rfl⟩
 rw[<-hbx] at E0 Z0 B0 hb ⊢;have HB:Hid (bx=w.heap.size):=hbx;clear hbx hw0 S1 hk hl;have x0:=(B0.cell (p:=⟨b,0,none⟩) hb).trans x0;have x1:=(B0.cell (p:=⟨b,1,none⟩) hb).trans x1;have x2:=(B0.cell (p:=⟨b,2,none⟩) hb).trans x2;have x3:=(B0.cell (p:=⟨b,3,none⟩) hb).trans x3;have y0:=(B0.cell (p:=⟨b,4,none⟩) hb).trans y0;have y1:=(B0.cell (p:=⟨b,5,none⟩) hb).trans y1;have y2:=(B0.cell (p:=⟨b,6,none⟩) hb).trans y2;have y3:=(B0.cell (p:=⟨b,7,none⟩) hb).trans y3;have hb0:b<w0.heap.size:=Nat.lt_trans hb (lt_of_block E0);obtain⟨p0,p1,p2,p3,pf⟩:=box4 E0;have l1:bx<w0.heap.size:=lt_of_block E0;have l2:bx<w0.heap.size+1:=Nat.lt_succ_of_lt l1;have l3:b<w0.heap.size+1:=Nat.lt_succ_of_lt hb0;go_region
 all_goals (
  first
   | (
    obtain⟨w1,hw1⟩:∃w1,w1=((w0.alloc (.cells #[.int .i64 x.k,.int .i64 x.n,.string ⟨x.nm.toArray⟩,.slice a0 x.kids.len c0] 34)).alloc (.cells #[.int .i64 y.k,.int .i64 y.n,.string ⟨y.nm.toArray⟩,.slice a1 y.kids.len c1] 34)).drew:=⟨_,rfl⟩
    obtain⟨p,hp⟩:∃p,p=w0.heap.size:=⟨_,rfl⟩
    obtain⟨q,hq⟩:∃q,q=w0.heap.size+1:=⟨_,rfl⟩
    have B1:Below bx w w1:=by rw[hw1];exact((B0.alloc (Nat.le_of_lt l1) _).alloc (by simp;omega) _).drew
    have D1:Below w0.heap.size w0 w1:=by rw[hw1];exact(((Below.refl _ w0).alloc (Nat.le_refl _) _).alloc (by simp) _).drew
    have E1:=(D1.block bx l1).trans E0;have Z1:=(D1.block (bx+1) (lt_of_block Z0)).trans Z0;have L1:w1.heap[p]?=some (.cells #[.int .i64 x.k,.int .i64 x.n,stv x.nm,.slice a0 x.kids.len c0] 34):=by
     rw[hw1,hp];exact(Below.heap_alloc _ _ _ (by simp)).trans (heap_alloc_new w0 _)
    have R1:w1.heap[q]?=some (.cells #[.int .i64 y.k,.int .i64 y.n,stv y.nm,.slice a1 y.kids.len c1] 34):=by
     rw[hw1,hq];exact by have:=heap_alloc_new (w0.alloc (.cells #[.int .i64 x.k,.int .i64 x.n,.string ⟨x.nm.toArray⟩,.slice a0 x.kids.len c0] 34)) (.cells #[.int .i64 y.k,.int .i64 y.n,.string ⟨y.nm.toArray⟩,.slice a1 y.kids.len c1] 34);rw[show (w0.alloc (.cells #[.int .i64 x.k,.int .i64 x.n,.string ⟨x.nm.toArray⟩,.slice a0 x.kids.len c0] 34)).heap.size=w0.heap.size+1 by simp] at this;exact this
    rw[<-hw1,<-hq,<-hp];clear hw1 hp hq D1 B0 E0 Z0 l1 l2 l3 hb0 hb p0 p1 p2 p3 pf x0 x1 x2 x3 y0 y1 y2 y3)
   | (
    obtain⟨w1,hw1⟩:∃w1,w1=((w0.alloc (.cells #[.int .i64 y.k,.int .i64 y.n,.string ⟨y.nm.toArray⟩,.slice a1 y.kids.len c1] 34)).alloc (.cells #[.int .i64 x.k,.int .i64 x.n,.string ⟨x.nm.toArray⟩,.slice a0 x.kids.len c0] 34)).drew:=⟨_,rfl⟩
    obtain⟨p,hp⟩:∃p,p=w0.heap.size+1:=⟨_,rfl⟩
    obtain⟨q,hq⟩:∃q,q=w0.heap.size:=⟨_,rfl⟩
    have B1:Below bx w w1:=by rw[hw1];exact((B0.alloc (Nat.le_of_lt l1) _).alloc (by simp;omega) _).drew
    have D1:Below w0.heap.size w0 w1:=by rw[hw1];exact(((Below.refl _ w0).alloc (Nat.le_refl _) _).alloc (by simp) _).drew
    have E1:=(D1.block bx l1).trans E0;have Z1:=(D1.block (bx+1) (lt_of_block Z0)).trans Z0;have L1:w1.heap[p]?=some (.cells #[.int .i64 x.k,.int .i64 x.n,stv x.nm,.slice a0 x.kids.len c0] 34):=by
     rw[hw1,hp];exact by have:=heap_alloc_new (w0.alloc (.cells #[.int .i64 y.k,.int .i64 y.n,.string ⟨y.nm.toArray⟩,.slice a1 y.kids.len c1] 34)) (.cells #[.int .i64 x.k,.int .i64 x.n,.string ⟨x.nm.toArray⟩,.slice a0 x.kids.len c0] 34);rw[show (w0.alloc (.cells #[.int .i64 y.k,.int .i64 y.n,.string ⟨y.nm.toArray⟩,.slice a1 y.kids.len c1] 34)).heap.size=w0.heap.size+1 by simp] at this;exact this
    have R1:w1.heap[q]?=some (.cells #[.int .i64 y.k,.int .i64 y.n,stv y.nm,.slice a1 y.kids.len c1] 34):=by
     rw[hw1,hq];exact(Below.heap_alloc _ _ _ (by simp)).trans (heap_alloc_new w0 _)
    rw[<-hw1,<-hp,<-hq];clear hw1 hp hq D1 B0 E0 Z0 l1 l2 l3 hb0 hb p0 p1 p2 p3 pf x0 x1 x2 x3 y0 y1 y2 y3)
  by_cases h5:x.k=25
  ·have k5:(x.k==25)=true:=by simpa using h5
   have k2:(x.k==22)=false:=by rw[h5];rfl
   by_cases h0:x.kids.len=0
   ·have hans:qnE e x y=unE e:=by unfold qnE;rw[if_pos (.inl ⟨h5,h0⟩)]
    have k0:((x.kids.len:Int)==0)=true:=by rw[h0];rfl
    clear h5;have hc:=unmoved_c e (some ⟨b,0,none⟩) cap P w w1 S;rw[exN_out,HL.out] at hc;obtain⟨p0,p1,p2,p3,pf⟩:=box4 E1;obtain⟨r0,r1,r2,r3,rf⟩:=box4 L1;obtain⟨s0,s1,s2,s3,sf⟩:=box4 R1;go_wp2_with fail;refine hc.mono ?_;rintro u w2 ⟨aU,cU,rfl,SU,b2⟩;obtain⟨B2,E1,L1,R1,Z1⟩:=bxs B1 b2 E1 L1 R1 Z1;clear hc b2 p0 p1 p2 p3 pf r0 r1 r2 r3 rf s0 s1 s2 s3 sf B1;rw[exN_out];generalize unE e=U at *;have HU:=hU4 (.int .i64 U.k) (.int .i64 U.n) (stv U.nm) (.slice aU U.kids.len cU) Z1 B2;obtain⟨q0,q1,q2,q3,qf⟩:=box4 Z1;obtain⟨p0,p1,p2,p3,pf⟩:=box4 E1;obtain⟨r0,r1,r2,r3,rf⟩:=box4 L1;clear Z1 E1 L1 R1;go_wp2;obtain⟨wz,hwz,EZ,BZ⟩:=HU.out;rw[<-hwz];obtain⟨v0,v1,v2,v3,-⟩:=box4 EZ;rw[HB.out] at BZ;exact bodyPost_ret (v:=exN U aU cU) (by simp[results,Tryz.results114,go_sem,v0,v1,v2,v3,exN]) rfl ⟨aU,cU,by rw[hans],by rw[hans];exact SU,BZ⟩
   ·have hans:qnE e x y=e:=by unfold qnE;rw[if_neg (by rintro (h|h);exact h0 h.2;rw[h5] at h;exact absurd h.1 (by decide))]
    have k0:((x.kids.len:Int)==0)=false:=by rw[beq_eq_false_iff_ne];omega
    clear h5 h0;have HU:=hU4 (.int .i64 e.k) (.int .i64 e.n) (stv e.nm) (.slice (some ⟨b,0,none⟩) 2 cap) Z1 B1;obtain⟨q0,q1,q2,q3,qf⟩:=box4 Z1;obtain⟨p0,p1,p2,p3,pf⟩:=box4 E1;obtain⟨r0,r1,r2,r3,rf⟩:=box4 L1;clear Z1 E1 L1 R1;go_wp2;obtain⟨wz,hwz,EZ,BZ⟩:=HU.out;rw[<-hwz];obtain⟨v0,v1,v2,v3,-⟩:=box4 EZ;rw[HB.out] at BZ;exact bodyPost_ret (v:=exN e (some ⟨b,0,none⟩) cap) (by simp[results,Tryz.results114,go_sem,v0,v1,v2,v3,exN,HL.out]) rfl ⟨(some ⟨b,0,none⟩),cap,by rw[hans],by rw[hans];exact S,BZ⟩
  ·have k5:(x.k==25)=false:=by simpa using h5
   by_cases h2:x.k=22
   ·have k2:(x.k==22)=true:=by simpa using h2
    have hc:=isidle_c e.n y a1 c1 w1;rw[exN_out] at hc;obtain⟨p0,p1,p2,p3,pf⟩:=box4 E1;obtain⟨r0,r1,r2,r3,rf⟩:=box4 L1;obtain⟨s0,s1,s2,s3,sf⟩:=box4 R1;go_wp2_with fail;refine hc.mono ?_;rintro u w2 ⟨rfl,b2⟩;obtain⟨B2,E1,L1,R1,Z1⟩:=bxs B1 b2 E1 L1 R1 Z1;clear hc b2 p0 p1 p2 p3 pf r0 r1 r2 r3 rf s0 s1 s2 s3 sf B1;cases h3:idE e.n y with
    | true =>
     have hans:qnE e x y=unE e:=by unfold qnE;rw[if_pos (.inr ⟨h2,h3⟩)]
     clear h5 h2;have hc:=unmoved_c e (some ⟨b,0,none⟩) cap P w w2 S;rw[exN_out,HL.out] at hc;obtain⟨p0,p1,p2,p3,pf⟩:=box4 E1;obtain⟨r0,r1,r2,r3,rf⟩:=box4 L1;obtain⟨s0,s1,s2,s3,sf⟩:=box4 R1;go_wp2_with fail;refine hc.mono ?_;rintro u w3 ⟨aU,cU,rfl,SU,b3⟩;obtain⟨B3,E1,L1,R1,Z1⟩:=bxs B2 b3 E1 L1 R1 Z1;clear hc b3 p0 p1 p2 p3 pf r0 r1 r2 r3 rf s0 s1 s2 s3 sf B2;rw[exN_out];generalize unE e=U at *;have HU:=hU4 (.int .i64 U.k) (.int .i64 U.n) (stv U.nm) (.slice aU U.kids.len cU) Z1 B3;obtain⟨q0,q1,q2,q3,qf⟩:=box4 Z1;obtain⟨p0,p1,p2,p3,pf⟩:=box4 E1;obtain⟨r0,r1,r2,r3,rf⟩:=box4 L1;clear Z1 E1 L1 R1;go_wp2;obtain⟨wz,hwz,EZ,BZ⟩:=HU.out;rw[<-hwz];obtain⟨v0,v1,v2,v3,-⟩:=box4 EZ;rw[HB.out] at BZ;exact bodyPost_ret (v:=exN U aU cU) (by simp[results,Tryz.results114,go_sem,v0,v1,v2,v3,exN]) rfl ⟨aU,cU,by rw[hans],by rw[hans];exact SU,BZ⟩
    | false =>
     have hans:qnE e x y=e:=by unfold qnE;rw[if_neg (by rintro (h|h);exact h5 h.1;rw[h3] at h;exact absurd h.2 (by decide))]
     clear h5 h2;have HU:=hU4 (.int .i64 e.k) (.int .i64 e.n) (stv e.nm) (.slice (some ⟨b,0,none⟩) 2 cap) Z1 B2;obtain⟨q0,q1,q2,q3,qf⟩:=box4 Z1;obtain⟨p0,p1,p2,p3,pf⟩:=box4 E1;obtain⟨r0,r1,r2,r3,rf⟩:=box4 L1;clear Z1 E1 L1 R1;go_wp2;obtain⟨wz,hwz,EZ,BZ⟩:=HU.out;rw[<-hwz];obtain⟨v0,v1,v2,v3,-⟩:=box4 EZ;rw[HB.out] at BZ;exact bodyPost_ret (v:=exN e (some ⟨b,0,none⟩) cap) (by simp[results,Tryz.results114,go_sem,v0,v1,v2,v3,exN,HL.out]) rfl ⟨(some ⟨b,0,none⟩),cap,by rw[hans],by rw[hans];exact S,BZ⟩
   ·have k2:(x.k==22)=false:=by simpa using h2
    have hans:qnE e x y=e:=by unfold qnE;rw[if_neg (by rintro (h|h);exact h5 h.1;exact h2 h.1)]
    clear h5 h2;have HU:=hU4 (.int .i64 e.k) (.int .i64 e.n) (stv e.nm) (.slice (some ⟨b,0,none⟩) 2 cap) Z1 B1;obtain⟨q0,q1,q2,q3,qf⟩:=box4 Z1;obtain⟨p0,p1,p2,p3,pf⟩:=box4 E1;obtain⟨r0,r1,r2,r3,rf⟩:=box4 L1;clear Z1 E1 L1 R1;go_wp2;obtain⟨wz,hwz,EZ,BZ⟩:=HU.out;rw[<-hwz];obtain⟨v0,v1,v2,v3,-⟩:=box4 EZ;rw[HB.out] at BZ;exact bodyPost_ret (v:=exN e (some ⟨b,0,none⟩) cap) (by simp[results,Tryz.results114,go_sem,v0,v1,v2,v3,exN,HL.out]) rfl ⟨(some ⟨b,0,none⟩),cap,by rw[hans],by rw[hans];exact S,BZ⟩)
def joE (e x y:Ex)(g:Int):Ex:=if isE x 2 g then y else if x.k=2 then x else if isE y 2 g then x else e
theorem joined_c (e x y:Ex)(g:Int)(hg:Hid ((e.k=18/\g=0)\/(e.k≠18/\g=1)))(ao:Option Addr)(cap:Nat)(P:Nat->Prop)(w:World)(hk:e.kids=.cons x.k x.n x.nm x.a x.kids (.cons y.k y.n y.nm y.a y.kids .nil))(S:SlcN w P e.kids ao cap) :
  Calls Tryz.prog 72 #[exN e ao cap] w (PostRu w w P (joE e x y g)):=by
 have hl:e.kids.len=2:=by rw[hk];rfl
 have HL:Hid (e.kids.len=2):=hl;have S1:=S;rw[hk] at S1;obtain⟨b,a0,c0,rfl,hb,x0,x1,x2,x3,SX⟩:=SlcN.kidC (x:=.nil) S1;obtain⟨b',a1,c1,hb1,-,y0,y1,y2,y3,SY⟩:=SlcN.kidC (x:=.cons x.k x.n x.nm x.a x.kids .nil) S1;cases hb1;simp only[Fs.len,Fs.nil,Fs.cons,Nat.zero_mul,Nat.zero_add,Nat.reduceMul,Nat.reduceAdd] at x0 x1 x2 x3 y0 y1 y2 y3;obtain⟨w0,hw0⟩:∃w0,w0=(w.alloc (.cells #[.int .i64 e.k,.int .i64 e.n,stv e.nm,.slice (some ⟨b,0,none⟩) 2 cap] 34)).alloc (.cells #[.int .i64 0,.int .i64 0,.string ⟨#[]⟩,.slice none 0 0] 34):=⟨_,rfl⟩
 have B0:Below w.heap.size w w0:=by rw[hw0];exact((Below.refl _ w).alloc (Nat.le_refl _) _).alloc (by simp) _
 have E0:w0.heap[w.heap.size]?=some (.cells #[.int .i64 e.k,.int .i64 e.n,stv e.nm,.slice (some ⟨b,0,none⟩) 2 cap] 34):=by rw[hw0];exact(Below.heap_alloc _ _ _ (by simp)).trans (heap_alloc_new w _)
 have Z0:w0.heap[w.heap.size+1]?=some (.cells #[.int .i64 0,.int .i64 0,.string ⟨#[]⟩,.slice none 0 0] 34):=by
  rw[hw0]
  have:=heap_alloc_new (w.alloc (.cells #[.int .i64 e.k,.int .i64 e.n,stv e.nm,.slice (some ⟨b,0,none⟩) 2 cap] 34)) (.cells #[.int .i64 0,.int .i64 0,.string ⟨#[]⟩,.slice none 0 0] 34)
  simpa using this
 rw[exN_out,hl];go_enter Tryz.func72,Tryz.ntmps72;go_upto_region 1 with fail;rw[<-hw0];obtain⟨bx,hbx⟩:∃bx,bx=w.heap.size:=⟨_,rfl⟩
 rw[<-hbx] at E0 Z0 B0 hb ⊢;have HB:Hid (bx=w.heap.size):=hbx;clear hbx hw0 S1 hk hl;have x0:=(B0.cell (p:=⟨b,0,none⟩) hb).trans x0;have x1:=(B0.cell (p:=⟨b,1,none⟩) hb).trans x1;have x2:=(B0.cell (p:=⟨b,2,none⟩) hb).trans x2;have x3:=(B0.cell (p:=⟨b,3,none⟩) hb).trans x3;have y0:=(B0.cell (p:=⟨b,4,none⟩) hb).trans y0;have y1:=(B0.cell (p:=⟨b,5,none⟩) hb).trans y1;have y2:=(B0.cell (p:=⟨b,6,none⟩) hb).trans y2;have y3:=(B0.cell (p:=⟨b,7,none⟩) hb).trans y3;have hb0:b<w0.heap.size:=Nat.lt_trans hb (lt_of_block E0);obtain⟨p0,p1,p2,p3,pf⟩:=box4 E0;have l1:bx<w0.heap.size:=lt_of_block E0;have l2:bx<w0.heap.size+1:=Nat.lt_succ_of_lt l1;have l3:b<w0.heap.size+1:=Nat.lt_succ_of_lt hb0;go_upto_region 3 with fail;obtain⟨w1,hw1⟩:∃w1,w1=(w0.alloc (.cells #[.int .i64 x.k,.int .i64 x.n,.string ⟨x.nm.toArray⟩,.slice a0 x.kids.len c0] 34)).alloc (.cells #[.int .i64 y.k,.int .i64 y.n,.string ⟨y.nm.toArray⟩,.slice a1 y.kids.len c1] 34):=⟨_,rfl⟩
 obtain⟨p,hp⟩:∃p,p=w0.heap.size:=⟨_,rfl⟩
 obtain⟨q,hq⟩:∃q,q=w0.heap.size+1:=⟨_,rfl⟩
 have B1:Below bx w w1:=by rw[hw1];exact(B0.alloc (Nat.le_of_lt l1) _).alloc (by simp;omega) _
 have D1:Below w0.heap.size w0 w1:=by rw[hw1];exact((Below.refl _ w0).alloc (Nat.le_refl _) _).alloc (by simp) _
 have E1:=(D1.block bx l1).trans E0;have Z1:=(D1.block (bx+1) (lt_of_block Z0)).trans Z0;have L1:w1.heap[p]?=some (.cells #[.int .i64 x.k,.int .i64 x.n,stv x.nm,.slice a0 x.kids.len c0] 34):=by
  rw[hw1,hp];exact(Below.heap_alloc _ _ _ (by simp)).trans (heap_alloc_new w0 _)
 have R1:w1.heap[q]?=some (.cells #[.int .i64 y.k,.int .i64 y.n,stv y.nm,.slice a1 y.kids.len c1] 34):=by
  rw[hw1,hq]
  have:=heap_alloc_new (w0.alloc (.cells #[.int .i64 x.k,.int .i64 x.n,.string ⟨x.nm.toArray⟩,.slice a0 x.kids.len c0] 34)) (.cells #[.int .i64 y.k,.int .i64 y.n,.string ⟨y.nm.toArray⟩,.slice a1 y.kids.len c1] 34)
  rw[show (w0.alloc (.cells #[.int .i64 x.k,.int .i64 x.n,.string ⟨x.nm.toArray⟩,.slice a0 x.kids.len c0] 34)).heap.size=w0.heap.size+1 by simp] at this;exact this
 rw[<-hw1,<-hq,<-hp];clear hw1 hp hq D1 B0 E0 Z0 l1 l2 l3 hb0 hb p0 p1 p2 p3 pf x0 x1 x2 x3 y0 y1 y2 y3;rcases hg.out with ⟨h8,rfl⟩|⟨h8,rfl⟩
 ·have k8:(e.k==18)=true:=by simpa using h8
  clear h8 hg;have hc:=isr_c x a0 c0 2 0 w1;rw[exN_out] at hc;obtain⟨p0,p1,p2,p3,pf⟩:=box4 E1;obtain⟨r0,r1,r2,r3,rf⟩:=box4 L1;obtain⟨s0,s1,s2,s3,sf⟩:=box4 R1;go_wp2_with fail;refine hc.mono ?_;rintro u w2 ⟨rfl,b2⟩;obtain⟨B2,E1,L1,R1,Z1⟩:=bxs B1 b2 E1 L1 R1 Z1;clear hc b2 p0 p1 p2 p3 pf r0 r1 r2 r3 rf s0 s1 s2 s3 sf B1;cases h1:isE x 2 0 with
  | true =>
   have hans:joE e x y 0=y:=by simp[joE,h1]
   have HU:=hU4 (.int .i64 y.k) (.int .i64 y.n) (stv y.nm) (.slice a1 y.kids.len c1) Z1 B2;obtain⟨q0,q1,q2,q3,qf⟩:=box4 Z1;obtain⟨p0,p1,p2,p3,pf⟩:=box4 E1;obtain⟨r0,r1,r2,r3,rf⟩:=box4 L1;obtain⟨s0,s1,s2,s3,sf⟩:=box4 R1;clear Z1 E1 L1 R1;go_wp2;obtain⟨wz,hwz,EZ,BZ⟩:=HU.out;rw[<-hwz];obtain⟨v0,v1,v2,v3,-⟩:=box4 EZ;rw[HB.out] at BZ;exact bodyPost_ret (v:=exN y a1 c1) (by simp[results,Tryz.results72,go_sem,v0,v1,v2,v3,exN]) rfl ⟨a1,c1,by first|rfl|rw[hans],by first|exact SY|(rw[hans];exact SY),BZ⟩
  | false =>
   by_cases h2:x.k=2
   ·have hans:joE e x y 0=x:=by unfold joE;rw[h1,if_pos h2];rfl
    have k2:(x.k==2)=true:=by simpa using h2
    clear h2;have HU:=hU4 (.int .i64 x.k) (.int .i64 x.n) (stv x.nm) (.slice a0 x.kids.len c0) Z1 B2;obtain⟨q0,q1,q2,q3,qf⟩:=box4 Z1;obtain⟨p0,p1,p2,p3,pf⟩:=box4 E1;obtain⟨r0,r1,r2,r3,rf⟩:=box4 L1;obtain⟨s0,s1,s2,s3,sf⟩:=box4 R1;clear Z1 E1 L1 R1;go_wp2;obtain⟨wz,hwz,EZ,BZ⟩:=HU.out;rw[<-hwz];obtain⟨v0,v1,v2,v3,-⟩:=box4 EZ;rw[HB.out] at BZ;exact bodyPost_ret (v:=exN x a0 c0) (by simp[results,Tryz.results72,go_sem,v0,v1,v2,v3,exN]) rfl ⟨a0,c0,by first|rfl|rw[hans],by first|exact SX|(rw[hans];exact SX),BZ⟩
   ·have k2:(x.k==2)=false:=by simpa using h2
    have hc:=isr_c y a1 c1 2 0 w2;rw[exN_out] at hc;obtain⟨p0,p1,p2,p3,pf⟩:=box4 E1;obtain⟨r0,r1,r2,r3,rf⟩:=box4 L1;obtain⟨s0,s1,s2,s3,sf⟩:=box4 R1;go_wp2_with fail;refine hc.mono ?_;rintro u w3 ⟨rfl,b3⟩;obtain⟨B3,E1,L1,R1,Z1⟩:=bxs B2 b3 E1 L1 R1 Z1;clear hc b3 p0 p1 p2 p3 pf r0 r1 r2 r3 rf s0 s1 s2 s3 sf B2;cases h3:isE y 2 0 with
    | true =>
     have hans:joE e x y 0=x:=by simp[joE,h1,h2,h3]
     have HU:=hU4 (.int .i64 x.k) (.int .i64 x.n) (stv x.nm) (.slice a0 x.kids.len c0) Z1 B3;obtain⟨q0,q1,q2,q3,qf⟩:=box4 Z1;obtain⟨p0,p1,p2,p3,pf⟩:=box4 E1;obtain⟨r0,r1,r2,r3,rf⟩:=box4 L1;obtain⟨s0,s1,s2,s3,sf⟩:=box4 R1;clear Z1 E1 L1 R1;go_wp2;obtain⟨wz,hwz,EZ,BZ⟩:=HU.out;rw[<-hwz];obtain⟨v0,v1,v2,v3,-⟩:=box4 EZ;rw[HB.out] at BZ;exact bodyPost_ret (v:=exN x a0 c0) (by simp[results,Tryz.results72,go_sem,v0,v1,v2,v3,exN]) rfl ⟨a0,c0,by first|rfl|rw[hans],by first|exact SX|(rw[hans];exact SX),BZ⟩
    | false =>
     have hans:joE e x y 0=e:=by simp[joE,h1,h2,h3]
     have HU:=hU4 (.int .i64 e.k) (.int .i64 e.n) (stv e.nm) (.slice (some ⟨b,0,none⟩) 2 cap) Z1 B3;obtain⟨q0,q1,q2,q3,qf⟩:=box4 Z1;obtain⟨p0,p1,p2,p3,pf⟩:=box4 E1;obtain⟨r0,r1,r2,r3,rf⟩:=box4 L1;obtain⟨s0,s1,s2,s3,sf⟩:=box4 R1;clear Z1 E1 L1 R1;go_wp2;obtain⟨wz,hwz,EZ,BZ⟩:=HU.out;rw[<-hwz];obtain⟨v0,v1,v2,v3,-⟩:=box4 EZ;rw[HB.out] at BZ;exact bodyPost_ret (v:=exN e (some ⟨b,0,none⟩) cap) (by simp[results,Tryz.results72,go_sem,v0,v1,v2,v3,exN,HL.out]) rfl ⟨(some ⟨b,0,none⟩),cap,by first|rfl|rw[hans],by first|exact S|(rw[hans];exact S),BZ⟩
 ·have k8:(e.k==18)=false:=by simpa using h8
  clear h8 hg;have hc:=isr_c x a0 c0 2 1 w1;rw[exN_out] at hc;obtain⟨p0,p1,p2,p3,pf⟩:=box4 E1;obtain⟨r0,r1,r2,r3,rf⟩:=box4 L1;obtain⟨s0,s1,s2,s3,sf⟩:=box4 R1;go_wp2_with fail;refine hc.mono ?_;rintro u w2 ⟨rfl,b2⟩;obtain⟨B2,E1,L1,R1,Z1⟩:=bxs B1 b2 E1 L1 R1 Z1;clear hc b2 p0 p1 p2 p3 pf r0 r1 r2 r3 rf s0 s1 s2 s3 sf B1;cases h1:isE x 2 1 with
  | true =>
   have hans:joE e x y 1=y:=by simp[joE,h1]
   have HU:=hU4 (.int .i64 y.k) (.int .i64 y.n) (stv y.nm) (.slice a1 y.kids.len c1) Z1 B2;obtain⟨q0,q1,q2,q3,qf⟩:=box4 Z1;obtain⟨p0,p1,p2,p3,pf⟩:=box4 E1;obtain⟨r0,r1,r2,r3,rf⟩:=box4 L1;obtain⟨s0,s1,s2,s3,sf⟩:=box4 R1;clear Z1 E1 L1 R1;go_wp2;obtain⟨wz,hwz,EZ,BZ⟩:=HU.out;rw[<-hwz];obtain⟨v0,v1,v2,v3,-⟩:=box4 EZ;rw[HB.out] at BZ;exact bodyPost_ret (v:=exN y a1 c1) (by simp[results,Tryz.results72,go_sem,v0,v1,v2,v3,exN]) rfl ⟨a1,c1,by first|rfl|rw[hans],by first|exact SY|(rw[hans];exact SY),BZ⟩
  | false =>
   by_cases h2:x.k=2
   ·have hans:joE e x y 1=x:=by unfold joE;rw[h1,if_pos h2];rfl
    have k2:(x.k==2)=true:=by simpa using h2
    clear h2;have HU:=hU4 (.int .i64 x.k) (.int .i64 x.n) (stv x.nm) (.slice a0 x.kids.len c0) Z1 B2;obtain⟨q0,q1,q2,q3,qf⟩:=box4 Z1;obtain⟨p0,p1,p2,p3,pf⟩:=box4 E1;obtain⟨r0,r1,r2,r3,rf⟩:=box4 L1;obtain⟨s0,s1,s2,s3,sf⟩:=box4 R1;clear Z1 E1 L1 R1;go_wp2;obtain⟨wz,hwz,EZ,BZ⟩:=HU.out;rw[<-hwz];obtain⟨v0,v1,v2,v3,-⟩:=box4 EZ;rw[HB.out] at BZ;exact bodyPost_ret (v:=exN x a0 c0) (by simp[results,Tryz.results72,go_sem,v0,v1,v2,v3,exN]) rfl ⟨a0,c0,by first|rfl|rw[hans],by first|exact SX|(rw[hans];exact SX),BZ⟩
   ·have k2:(x.k==2)=false:=by simpa using h2
    have hc:=isr_c y a1 c1 2 1 w2;rw[exN_out] at hc;obtain⟨p0,p1,p2,p3,pf⟩:=box4 E1;obtain⟨r0,r1,r2,r3,rf⟩:=box4 L1;obtain⟨s0,s1,s2,s3,sf⟩:=box4 R1;go_wp2_with fail;refine hc.mono ?_;rintro u w3 ⟨rfl,b3⟩;obtain⟨B3,E1,L1,R1,Z1⟩:=bxs B2 b3 E1 L1 R1 Z1;clear hc b3 p0 p1 p2 p3 pf r0 r1 r2 r3 rf s0 s1 s2 s3 sf B2;cases h3:isE y 2 1 with
    | true =>
     have hans:joE e x y 1=x:=by simp[joE,h1,h2,h3]
     have HU:=hU4 (.int .i64 x.k) (.int .i64 x.n) (stv x.nm) (.slice a0 x.kids.len c0) Z1 B3;obtain⟨q0,q1,q2,q3,qf⟩:=box4 Z1;obtain⟨p0,p1,p2,p3,pf⟩:=box4 E1;obtain⟨r0,r1,r2,r3,rf⟩:=box4 L1;obtain⟨s0,s1,s2,s3,sf⟩:=box4 R1;clear Z1 E1 L1 R1;go_wp2;obtain⟨wz,hwz,EZ,BZ⟩:=HU.out;rw[<-hwz];obtain⟨v0,v1,v2,v3,-⟩:=box4 EZ;rw[HB.out] at BZ;exact bodyPost_ret (v:=exN x a0 c0) (by simp[results,Tryz.results72,go_sem,v0,v1,v2,v3,exN]) rfl ⟨a0,c0,by first|rfl|rw[hans],by first|exact SX|(rw[hans];exact SX),BZ⟩
    | false =>
     have hans:joE e x y 1=e:=by simp[joE,h1,h2,h3]
     have HU:=hU4 (.int .i64 e.k) (.int .i64 e.n) (stv e.nm) (.slice (some ⟨b,0,none⟩) 2 cap) Z1 B3;obtain⟨q0,q1,q2,q3,qf⟩:=box4 Z1;obtain⟨p0,p1,p2,p3,pf⟩:=box4 E1;obtain⟨r0,r1,r2,r3,rf⟩:=box4 L1;obtain⟨s0,s1,s2,s3,sf⟩:=box4 R1;clear Z1 E1 L1 R1;go_wp2;obtain⟨wz,hwz,EZ,BZ⟩:=HU.out;rw[<-hwz];obtain⟨v0,v1,v2,v3,-⟩:=box4 EZ;rw[HB.out] at BZ;exact bodyPost_ret (v:=exN e (some ⟨b,0,none⟩) cap) (by simp[results,Tryz.results72,go_sem,v0,v1,v2,v3,exN,HL.out]) rfl ⟨(some ⟨b,0,none⟩),cap,by first|rfl|rw[hans],by first|exact S|(rw[hans];exact S),BZ⟩
def cmB (k a b:Int):Bool:=if k=13 then a==b else if k=14 then a != b else if k=15 then decide (a<b) else decide (a<=b)
def cmE (e x y:Ex):Ex:=if x.k≠y.k\/(x.k≠1/\x.k≠2) then e else truE (cmB e.k x.n y.n)
theorem compared_c (e x y:Ex)(ao:Option Addr)(cap:Nat)(P:Nat->Prop)(w:World)(hk:e.kids=.cons x.k x.n x.nm x.a x.kids (.cons y.k y.n y.nm y.a y.kids .nil))(S:SlcN w P e.kids ao cap) :
  Calls Tryz.prog 71 #[exN e ao cap] w (PostRu w w P (cmE e x y)):=by
 have hl:e.kids.len=2:=by rw[hk];rfl
 have HL:Hid (e.kids.len=2):=hl;have S1:=S;rw[hk] at S1;obtain⟨b,a0,c0,rfl,hb,x0,x1,x2,x3,SX⟩:=SlcN.kidC (x:=.nil) S1;obtain⟨b',a1,c1,hb1,-,y0,y1,y2,y3,SY⟩:=SlcN.kidC (x:=.cons x.k x.n x.nm x.a x.kids .nil) S1;cases hb1;simp only[Fs.len,Fs.nil,Fs.cons,Nat.zero_mul,Nat.zero_add,Nat.reduceMul,Nat.reduceAdd] at x0 x1 x2 x3 y0 y1 y2 y3;obtain⟨w0,hw0⟩:∃w0,w0=(w.alloc (.cells #[.int .i64 e.k,.int .i64 e.n,stv e.nm,.slice (some ⟨b,0,none⟩) 2 cap] 34)).alloc (.cells #[.int .i64 0,.int .i64 0,.string ⟨#[]⟩,.slice none 0 0] 34):=⟨_,rfl⟩
 have B0:Below w.heap.size w w0:=by rw[hw0];exact((Below.refl _ w).alloc (Nat.le_refl _) _).alloc (by simp) _
 have E0:w0.heap[w.heap.size]?=some (.cells #[.int .i64 e.k,.int .i64 e.n,stv e.nm,.slice (some ⟨b,0,none⟩) 2 cap] 34):=by rw[hw0];exact(Below.heap_alloc _ _ _ (by simp)).trans (heap_alloc_new w _)
 have Z0:w0.heap[w.heap.size+1]?=some (.cells #[.int .i64 0,.int .i64 0,.string ⟨#[]⟩,.slice none 0 0] 34):=by
  rw[hw0]
  have:=heap_alloc_new (w.alloc (.cells #[.int .i64 e.k,.int .i64 e.n,stv e.nm,.slice (some ⟨b,0,none⟩) 2 cap] 34)) (.cells #[.int .i64 0,.int .i64 0,.string ⟨#[]⟩,.slice none 0 0] 34)
  simpa using this
 rw[exN_out,hl];go_enter Tryz.func71,Tryz.ntmps71;go_upto_region 1 with fail;rw[<-hw0];obtain⟨bx,hbx⟩:∃bx,bx=w.heap.size:=⟨_,rfl⟩
 rw[<-hbx] at E0 Z0 B0 hb ⊢;have HB:Hid (bx=w.heap.size):=hbx;clear hbx hw0 S1 hk hl;have x0:=(B0.cell (p:=⟨b,0,none⟩) hb).trans x0;have x1:=(B0.cell (p:=⟨b,1,none⟩) hb).trans x1;have x2:=(B0.cell (p:=⟨b,2,none⟩) hb).trans x2;have x3:=(B0.cell (p:=⟨b,3,none⟩) hb).trans x3;have y0:=(B0.cell (p:=⟨b,4,none⟩) hb).trans y0;have y1:=(B0.cell (p:=⟨b,5,none⟩) hb).trans y1;have y2:=(B0.cell (p:=⟨b,6,none⟩) hb).trans y2;have y3:=(B0.cell (p:=⟨b,7,none⟩) hb).trans y3;have hb0:b<w0.heap.size:=Nat.lt_trans hb (lt_of_block E0);obtain⟨p0,p1,p2,p3,pf⟩:=box4 E0;have l1:bx<w0.heap.size:=lt_of_block E0;have l2:bx<w0.heap.size+1:=Nat.lt_succ_of_lt l1;have l3:b<w0.heap.size+1:=Nat.lt_succ_of_lt hb0;go_upto_region 3 with fail;obtain⟨w1,hw1⟩:∃w1,w1=(w0.alloc (.cells #[.int .i64 x.k,.int .i64 x.n,.string ⟨x.nm.toArray⟩,.slice a0 x.kids.len c0] 34)).alloc (.cells #[.int .i64 y.k,.int .i64 y.n,.string ⟨y.nm.toArray⟩,.slice a1 y.kids.len c1] 34):=⟨_,rfl⟩
 obtain⟨p,hp⟩:∃p,p=w0.heap.size:=⟨_,rfl⟩
 obtain⟨q,hq⟩:∃q,q=w0.heap.size+1:=⟨_,rfl⟩
 have B1:Below bx w w1:=by rw[hw1];exact(B0.alloc (Nat.le_of_lt l1) _).alloc (by simp;omega) _
 have D1:Below w0.heap.size w0 w1:=by rw[hw1];exact((Below.refl _ w0).alloc (Nat.le_refl _) _).alloc (by simp) _
 have E1:=(D1.block bx l1).trans E0;have Z1:=(D1.block (bx+1) (lt_of_block Z0)).trans Z0;have L1:w1.heap[p]?=some (.cells #[.int .i64 x.k,.int .i64 x.n,stv x.nm,.slice a0 x.kids.len c0] 34):=by
  rw[hw1,hp];exact(Below.heap_alloc _ _ _ (by simp)).trans (heap_alloc_new w0 _)
 have R1:w1.heap[q]?=some (.cells #[.int .i64 y.k,.int .i64 y.n,stv y.nm,.slice a1 y.kids.len c1] 34):=by
  rw[hw1,hq]
  have:=heap_alloc_new (w0.alloc (.cells #[.int .i64 x.k,.int .i64 x.n,.string ⟨x.nm.toArray⟩,.slice a0 x.kids.len c0] 34)) (.cells #[.int .i64 y.k,.int .i64 y.n,.string ⟨y.nm.toArray⟩,.slice a1 y.kids.len c1] 34)
  rw[show (w0.alloc (.cells #[.int .i64 x.k,.int .i64 x.n,.string ⟨x.nm.toArray⟩,.slice a0 x.kids.len c0] 34)).heap.size=w0.heap.size+1 by simp] at this;exact this
 rw[<-hw1,<-hq,<-hp];clear hw1 hp hq D1 B0 E0 Z0 l1 l2 l3 hb0 hb p0 p1 p2 p3 pf x0 x1 x2 x3 y0 y1 y2 y3;by_cases hx:x.k=y.k
 ·have d1:(x.k != y.k)=false:=by rw[hx];simp
  have d2:(x.k==y.k)=true:=by rw[hx];simp
  by_cases hx1:x.k=1
  ·have hcm:cmE e x y=truE (cmB e.k x.n y.n):=by unfold cmE;rw[if_neg (by rintro (h|h);exact h hx;exact h.1 hx1)]
   have d3:(x.k != 1)=false:=by rw[hx1];rfl
   have d4:(x.k==1)=true:=by rw[hx1];rfl
   clear hx hx1;by_cases e13:e.k=13
   ·have hans:cmE e x y=truE (x.n==y.n):=by rw[hcm,e13];rfl
    have m13:(e.k==13)=true:=by rw[e13];rfl
    have m14:(e.k==14)=false:=by rw[e13];rfl
    have m15:(e.k==15)=false:=by rw[e13];rfl
    clear hcm e13;have hc:=truthr_c (x.n==y.n) w1;rw[exN_out] at hc;obtain⟨p0,p1,p2,p3,pf⟩:=box4 E1;obtain⟨r0,r1,r2,r3,rf⟩:=box4 L1;obtain⟨s0,s1,s2,s3,sf⟩:=box4 R1;go_wp2_with fail;refine hc.mono ?_;rintro u w2 ⟨rfl,b2⟩;obtain⟨B2,E1,L1,R1,Z1⟩:=bxs B1 b2 E1 L1 R1 Z1;clear hc b2 p0 p1 p2 p3 pf r0 r1 r2 r3 rf s0 s1 s2 s3 sf B1;have SU:SlcN w P (truE (x.n==y.n)).kids none 0:=SlcN.nil _ _;generalize truE (x.n==y.n)=U at *;have HU:=hU4 (.int .i64 U.k) (.int .i64 U.n) (stv U.nm) (.slice none U.kids.len 0) Z1 B2;obtain⟨q0,q1,q2,q3,qf⟩:=box4 Z1;obtain⟨p0,p1,p2,p3,pf⟩:=box4 E1;obtain⟨r0,r1,r2,r3,rf⟩:=box4 L1;obtain⟨s0,s1,s2,s3,sf⟩:=box4 R1;clear Z1 E1 L1 R1;go_wp2;obtain⟨wz,hwz,EZ,BZ⟩:=HU.out;rw[<-hwz];obtain⟨v0,v1,v2,v3,-⟩:=box4 EZ;rw[HB.out] at BZ;exact bodyPost_ret (v:=exN U none 0) (by simp[results,Tryz.results71,go_sem,v0,v1,v2,v3,exN]) rfl ⟨none,0,by first|rfl|rw[hans],by first|exact SU|(rw[hans];exact SU),BZ⟩
   by_cases e14:e.k=14
   ·have hans:cmE e x y=truE (x.n != y.n):=by rw[hcm,e14];rfl
    have m13:(e.k==13)=false:=by rw[e14];rfl
    have m14:(e.k==14)=true:=by rw[e14];rfl
    have m15:(e.k==15)=false:=by rw[e14];rfl
    clear hcm e13 e14;have hc:=truthr_c (x.n != y.n) w1;rw[exN_out] at hc;obtain⟨p0,p1,p2,p3,pf⟩:=box4 E1;obtain⟨r0,r1,r2,r3,rf⟩:=box4 L1;obtain⟨s0,s1,s2,s3,sf⟩:=box4 R1;go_wp2_with fail;refine hc.mono ?_;rintro u w2 ⟨rfl,b2⟩;obtain⟨B2,E1,L1,R1,Z1⟩:=bxs B1 b2 E1 L1 R1 Z1;clear hc b2 p0 p1 p2 p3 pf r0 r1 r2 r3 rf s0 s1 s2 s3 sf B1;have SU:SlcN w P (truE (x.n != y.n)).kids none 0:=SlcN.nil _ _;generalize truE (x.n != y.n)=U at *;have HU:=hU4 (.int .i64 U.k) (.int .i64 U.n) (stv U.nm) (.slice none U.kids.len 0) Z1 B2;obtain⟨q0,q1,q2,q3,qf⟩:=box4 Z1;obtain⟨p0,p1,p2,p3,pf⟩:=box4 E1;obtain⟨r0,r1,r2,r3,rf⟩:=box4 L1;obtain⟨s0,s1,s2,s3,sf⟩:=box4 R1;clear Z1 E1 L1 R1;go_wp2;obtain⟨wz,hwz,EZ,BZ⟩:=HU.out;rw[<-hwz];obtain⟨v0,v1,v2,v3,-⟩:=box4 EZ;rw[HB.out] at BZ;exact bodyPost_ret (v:=exN U none 0) (by simp[results,Tryz.results71,go_sem,v0,v1,v2,v3,exN]) rfl ⟨none,0,by first|rfl|rw[hans],by first|exact SU|(rw[hans];exact SU),BZ⟩
   by_cases e15:e.k=15
   ·have hans:cmE e x y=truE (decide (x.n<y.n)):=by rw[hcm,e15];rfl
    have m13:(e.k==13)=false:=by rw[e15];rfl
    have m14:(e.k==14)=false:=by rw[e15];rfl
    have m15:(e.k==15)=true:=by rw[e15];rfl
    clear hcm e13 e14 e15;have hc:=truthr_c (decide (x.n<y.n)) w1;rw[exN_out] at hc;obtain⟨p0,p1,p2,p3,pf⟩:=box4 E1;obtain⟨r0,r1,r2,r3,rf⟩:=box4 L1;obtain⟨s0,s1,s2,s3,sf⟩:=box4 R1;go_wp2_with fail;refine hc.mono ?_;rintro u w2 ⟨rfl,b2⟩;obtain⟨B2,E1,L1,R1,Z1⟩:=bxs B1 b2 E1 L1 R1 Z1;clear hc b2 p0 p1 p2 p3 pf r0 r1 r2 r3 rf s0 s1 s2 s3 sf B1;have SU:SlcN w P (truE (decide (x.n<y.n))).kids none 0:=SlcN.nil _ _;generalize truE (decide (x.n<y.n))=U at *;have HU:=hU4 (.int .i64 U.k) (.int .i64 U.n) (stv U.nm) (.slice none U.kids.len 0) Z1 B2;obtain⟨q0,q1,q2,q3,qf⟩:=box4 Z1;obtain⟨p0,p1,p2,p3,pf⟩:=box4 E1;obtain⟨r0,r1,r2,r3,rf⟩:=box4 L1;obtain⟨s0,s1,s2,s3,sf⟩:=box4 R1;clear Z1 E1 L1 R1;go_wp2;obtain⟨wz,hwz,EZ,BZ⟩:=HU.out;rw[<-hwz];obtain⟨v0,v1,v2,v3,-⟩:=box4 EZ;rw[HB.out] at BZ;exact bodyPost_ret (v:=exN U none 0) (by simp[results,Tryz.results71,go_sem,v0,v1,v2,v3,exN]) rfl ⟨none,0,by first|rfl|rw[hans],by first|exact SU|(rw[hans];exact SU),BZ⟩
   have hans:cmE e x y=truE (decide (x.n<=y.n)):=by rw[hcm];unfold cmB;rw[if_neg e13,if_neg e14,if_neg e15]
   have m13:(e.k==13)=false:=by simpa using e13
   have m14:(e.k==14)=false:=by simpa using e14
   have m15:(e.k==15)=false:=by simpa using e15
   clear hcm e13 e14 e15;have hc:=truthr_c (decide (x.n<=y.n)) w1;rw[exN_out] at hc;obtain⟨p0,p1,p2,p3,pf⟩:=box4 E1;obtain⟨r0,r1,r2,r3,rf⟩:=box4 L1;obtain⟨s0,s1,s2,s3,sf⟩:=box4 R1;go_wp2_with fail;refine hc.mono ?_;rintro u w2 ⟨rfl,b2⟩;obtain⟨B2,E1,L1,R1,Z1⟩:=bxs B1 b2 E1 L1 R1 Z1;clear hc b2 p0 p1 p2 p3 pf r0 r1 r2 r3 rf s0 s1 s2 s3 sf B1;have SU:SlcN w P (truE (decide (x.n<=y.n))).kids none 0:=SlcN.nil _ _;generalize truE (decide (x.n<=y.n))=U at *;have HU:=hU4 (.int .i64 U.k) (.int .i64 U.n) (stv U.nm) (.slice none U.kids.len 0) Z1 B2;obtain⟨q0,q1,q2,q3,qf⟩:=box4 Z1;obtain⟨p0,p1,p2,p3,pf⟩:=box4 E1;obtain⟨r0,r1,r2,r3,rf⟩:=box4 L1;obtain⟨s0,s1,s2,s3,sf⟩:=box4 R1;clear Z1 E1 L1 R1;go_wp2;obtain⟨wz,hwz,EZ,BZ⟩:=HU.out;rw[<-hwz];obtain⟨v0,v1,v2,v3,-⟩:=box4 EZ;rw[HB.out] at BZ;exact bodyPost_ret (v:=exN U none 0) (by simp[results,Tryz.results71,go_sem,v0,v1,v2,v3,exN]) rfl ⟨none,0,by first|rfl|rw[hans],by first|exact SU|(rw[hans];exact SU),BZ⟩
  ·have d3:(x.k != 1)=true:=by simpa using hx1
   have d4:(x.k==1)=false:=by simpa using hx1
   by_cases hx2:x.k=2
   ·have hcm:cmE e x y=truE (cmB e.k x.n y.n):=by unfold cmE;rw[if_neg (by rintro (h|h);exact h hx;exact h.2 hx2)]
    have d5:(x.k != 2)=false:=by rw[hx2];rfl
    have d6:(x.k==2)=true:=by rw[hx2];rfl
    clear hx hx1 hx2;by_cases e13:e.k=13
    ·have hans:cmE e x y=truE (x.n==y.n):=by rw[hcm,e13];rfl
     have m13:(e.k==13)=true:=by rw[e13];rfl
     have m14:(e.k==14)=false:=by rw[e13];rfl
     have m15:(e.k==15)=false:=by rw[e13];rfl
     clear hcm e13;have hc:=truthr_c (x.n==y.n) w1;rw[exN_out] at hc;obtain⟨p0,p1,p2,p3,pf⟩:=box4 E1;obtain⟨r0,r1,r2,r3,rf⟩:=box4 L1;obtain⟨s0,s1,s2,s3,sf⟩:=box4 R1;go_wp2_with fail;refine hc.mono ?_;rintro u w2 ⟨rfl,b2⟩;obtain⟨B2,E1,L1,R1,Z1⟩:=bxs B1 b2 E1 L1 R1 Z1;clear hc b2 p0 p1 p2 p3 pf r0 r1 r2 r3 rf s0 s1 s2 s3 sf B1;have SU:SlcN w P (truE (x.n==y.n)).kids none 0:=SlcN.nil _ _;generalize truE (x.n==y.n)=U at *;have HU:=hU4 (.int .i64 U.k) (.int .i64 U.n) (stv U.nm) (.slice none U.kids.len 0) Z1 B2;obtain⟨q0,q1,q2,q3,qf⟩:=box4 Z1;obtain⟨p0,p1,p2,p3,pf⟩:=box4 E1;obtain⟨r0,r1,r2,r3,rf⟩:=box4 L1;obtain⟨s0,s1,s2,s3,sf⟩:=box4 R1;clear Z1 E1 L1 R1;go_wp2;obtain⟨wz,hwz,EZ,BZ⟩:=HU.out;rw[<-hwz];obtain⟨v0,v1,v2,v3,-⟩:=box4 EZ;rw[HB.out] at BZ;exact bodyPost_ret (v:=exN U none 0) (by simp[results,Tryz.results71,go_sem,v0,v1,v2,v3,exN]) rfl ⟨none,0,by first|rfl|rw[hans],by first|exact SU|(rw[hans];exact SU),BZ⟩
    by_cases e14:e.k=14
    ·have hans:cmE e x y=truE (x.n != y.n):=by rw[hcm,e14];rfl
     have m13:(e.k==13)=false:=by rw[e14];rfl
     have m14:(e.k==14)=true:=by rw[e14];rfl
     have m15:(e.k==15)=false:=by rw[e14];rfl
     clear hcm e13 e14;have hc:=truthr_c (x.n != y.n) w1;rw[exN_out] at hc;obtain⟨p0,p1,p2,p3,pf⟩:=box4 E1;obtain⟨r0,r1,r2,r3,rf⟩:=box4 L1;obtain⟨s0,s1,s2,s3,sf⟩:=box4 R1;go_wp2_with fail;refine hc.mono ?_;rintro u w2 ⟨rfl,b2⟩;obtain⟨B2,E1,L1,R1,Z1⟩:=bxs B1 b2 E1 L1 R1 Z1;clear hc b2 p0 p1 p2 p3 pf r0 r1 r2 r3 rf s0 s1 s2 s3 sf B1;have SU:SlcN w P (truE (x.n != y.n)).kids none 0:=SlcN.nil _ _;generalize truE (x.n != y.n)=U at *;have HU:=hU4 (.int .i64 U.k) (.int .i64 U.n) (stv U.nm) (.slice none U.kids.len 0) Z1 B2;obtain⟨q0,q1,q2,q3,qf⟩:=box4 Z1;obtain⟨p0,p1,p2,p3,pf⟩:=box4 E1;obtain⟨r0,r1,r2,r3,rf⟩:=box4 L1;obtain⟨s0,s1,s2,s3,sf⟩:=box4 R1;clear Z1 E1 L1 R1;go_wp2;obtain⟨wz,hwz,EZ,BZ⟩:=HU.out;rw[<-hwz];obtain⟨v0,v1,v2,v3,-⟩:=box4 EZ;rw[HB.out] at BZ;exact bodyPost_ret (v:=exN U none 0) (by simp[results,Tryz.results71,go_sem,v0,v1,v2,v3,exN]) rfl ⟨none,0,by first|rfl|rw[hans],by first|exact SU|(rw[hans];exact SU),BZ⟩
    by_cases e15:e.k=15
    ·have hans:cmE e x y=truE (decide (x.n<y.n)):=by rw[hcm,e15];rfl
     have m13:(e.k==13)=false:=by rw[e15];rfl
     have m14:(e.k==14)=false:=by rw[e15];rfl
     have m15:(e.k==15)=true:=by rw[e15];rfl
     clear hcm e13 e14 e15;have hc:=truthr_c (decide (x.n<y.n)) w1;rw[exN_out] at hc;obtain⟨p0,p1,p2,p3,pf⟩:=box4 E1;obtain⟨r0,r1,r2,r3,rf⟩:=box4 L1;obtain⟨s0,s1,s2,s3,sf⟩:=box4 R1;go_wp2_with fail;refine hc.mono ?_;rintro u w2 ⟨rfl,b2⟩;obtain⟨B2,E1,L1,R1,Z1⟩:=bxs B1 b2 E1 L1 R1 Z1;clear hc b2 p0 p1 p2 p3 pf r0 r1 r2 r3 rf s0 s1 s2 s3 sf B1;have SU:SlcN w P (truE (decide (x.n<y.n))).kids none 0:=SlcN.nil _ _;generalize truE (decide (x.n<y.n))=U at *;have HU:=hU4 (.int .i64 U.k) (.int .i64 U.n) (stv U.nm) (.slice none U.kids.len 0) Z1 B2;obtain⟨q0,q1,q2,q3,qf⟩:=box4 Z1;obtain⟨p0,p1,p2,p3,pf⟩:=box4 E1;obtain⟨r0,r1,r2,r3,rf⟩:=box4 L1;obtain⟨s0,s1,s2,s3,sf⟩:=box4 R1;clear Z1 E1 L1 R1;go_wp2;obtain⟨wz,hwz,EZ,BZ⟩:=HU.out;rw[<-hwz];obtain⟨v0,v1,v2,v3,-⟩:=box4 EZ;rw[HB.out] at BZ;exact bodyPost_ret (v:=exN U none 0) (by simp[results,Tryz.results71,go_sem,v0,v1,v2,v3,exN]) rfl ⟨none,0,by first|rfl|rw[hans],by first|exact SU|(rw[hans];exact SU),BZ⟩
    have hans:cmE e x y=truE (decide (x.n<=y.n)):=by rw[hcm];unfold cmB;rw[if_neg e13,if_neg e14,if_neg e15]
    have m13:(e.k==13)=false:=by simpa using e13
    have m14:(e.k==14)=false:=by simpa using e14
    have m15:(e.k==15)=false:=by simpa using e15
    clear hcm e13 e14 e15;have hc:=truthr_c (decide (x.n<=y.n)) w1;rw[exN_out] at hc;obtain⟨p0,p1,p2,p3,pf⟩:=box4 E1;obtain⟨r0,r1,r2,r3,rf⟩:=box4 L1;obtain⟨s0,s1,s2,s3,sf⟩:=box4 R1;go_wp2_with fail;refine hc.mono ?_;rintro u w2 ⟨rfl,b2⟩;obtain⟨B2,E1,L1,R1,Z1⟩:=bxs B1 b2 E1 L1 R1 Z1;clear hc b2 p0 p1 p2 p3 pf r0 r1 r2 r3 rf s0 s1 s2 s3 sf B1;have SU:SlcN w P (truE (decide (x.n<=y.n))).kids none 0:=SlcN.nil _ _;generalize truE (decide (x.n<=y.n))=U at *;have HU:=hU4 (.int .i64 U.k) (.int .i64 U.n) (stv U.nm) (.slice none U.kids.len 0) Z1 B2;obtain⟨q0,q1,q2,q3,qf⟩:=box4 Z1;obtain⟨p0,p1,p2,p3,pf⟩:=box4 E1;obtain⟨r0,r1,r2,r3,rf⟩:=box4 L1;obtain⟨s0,s1,s2,s3,sf⟩:=box4 R1;clear Z1 E1 L1 R1;go_wp2;obtain⟨wz,hwz,EZ,BZ⟩:=HU.out;rw[<-hwz];obtain⟨v0,v1,v2,v3,-⟩:=box4 EZ;rw[HB.out] at BZ;exact bodyPost_ret (v:=exN U none 0) (by simp[results,Tryz.results71,go_sem,v0,v1,v2,v3,exN]) rfl ⟨none,0,by first|rfl|rw[hans],by first|exact SU|(rw[hans];exact SU),BZ⟩
   ·have hans:cmE e x y=e:=by unfold cmE;rw[if_pos (.inr ⟨hx1,hx2⟩)]
    have d5:(x.k != 2)=true:=by simpa using hx2
    have d6:(x.k==2)=false:=by simpa using hx2
    clear hx hx1 hx2;have HU:=hU4 (.int .i64 e.k) (.int .i64 e.n) (stv e.nm) (.slice (some ⟨b,0,none⟩) 2 cap) Z1 B1;obtain⟨q0,q1,q2,q3,qf⟩:=box4 Z1;obtain⟨p0,p1,p2,p3,pf⟩:=box4 E1;obtain⟨r0,r1,r2,r3,rf⟩:=box4 L1;obtain⟨s0,s1,s2,s3,sf⟩:=box4 R1;clear Z1 E1 L1 R1;go_wp2;obtain⟨wz,hwz,EZ,BZ⟩:=HU.out;rw[<-hwz];obtain⟨v0,v1,v2,v3,-⟩:=box4 EZ;rw[HB.out] at BZ;exact bodyPost_ret (v:=exN e (some ⟨b,0,none⟩) cap) (by simp[results,Tryz.results71,go_sem,v0,v1,v2,v3,exN,HL.out]) rfl ⟨(some ⟨b,0,none⟩),cap,by first|rfl|rw[hans],by first|exact S|(rw[hans];exact S),BZ⟩
 ·have hans:cmE e x y=e:=by unfold cmE;rw[if_pos (.inl hx)]
  have d1:(x.k != y.k)=true:=by simpa using hx
  have d2:(x.k==y.k)=false:=by simpa using hx
  clear hx;have HU:=hU4 (.int .i64 e.k) (.int .i64 e.n) (stv e.nm) (.slice (some ⟨b,0,none⟩) 2 cap) Z1 B1;obtain⟨q0,q1,q2,q3,qf⟩:=box4 Z1;obtain⟨p0,p1,p2,p3,pf⟩:=box4 E1;obtain⟨r0,r1,r2,r3,rf⟩:=box4 L1;obtain⟨s0,s1,s2,s3,sf⟩:=box4 R1;clear Z1 E1 L1 R1;go_wp2;obtain⟨wz,hwz,EZ,BZ⟩:=HU.out;rw[<-hwz];obtain⟨v0,v1,v2,v3,-⟩:=box4 EZ;rw[HB.out] at BZ;exact bodyPost_ret (v:=exN e (some ⟨b,0,none⟩) cap) (by simp[results,Tryz.results71,go_sem,v0,v1,v2,v3,exN,HL.out]) rfl ⟨(some ⟨b,0,none⟩),cap,by first|rfl|rw[hans],by first|exact S|(rw[hans];exact S),BZ⟩
end Go.Proofs.YtaihhnlfcndecaaGreatDoor
