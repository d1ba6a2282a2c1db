import Derived.Test.YtaihhnlfcndecaaGreatDoorRulA
set_option maxRecDepth 100000
set_option maxHeartbeats 8000000
namespace Go.Proofs.YtaihhnlfcndecaaGreatDoor
open Go.ChangeShapes Go.WideShapes Go.ChangeAt Go.RowKit
set_option linter.unusedVariables false
set_option linter.unusedSimpArgs false
theorem FcNC.split {w:World}{P:Nat->Prop}:∀ {x y:Fs}{zs:List Value},FcNC w P (x.app y) zs->∃zx zy,zs=zx++zy/\FcNC w P x zx/\FcNC w P y zy
 | ⟨none⟩,y,zs,h=>⟨[],zs,rfl,rfl,h⟩
 | ⟨some ⟨k,n,nm,a,ks,r⟩⟩,y,zs,h=>by
  obtain ⟨ao,cap,ys,rfl,h1,h2⟩:=h;obtain ⟨zx,zy,rfl,h3,h4⟩:=FcNC.split h2;exact ⟨_,zy,rfl,⟨ao,cap,zx,rfl,h1,h3⟩,h4⟩
theorem SlcN.kidC {P:Nat->Prop}{w:World}{x r:Fs}{k n:Int}{nm:List UInt8}{a:Int}{ks:Fs}{ao:Option Addr}{cap:Nat}(h:SlcN w P (x.app (.cons k n nm a ks r)) ao cap) :
  ∃b ak ck,ao=some ⟨b,0,none⟩/\b<w.heap.size/\w.cell? ⟨b,x.len*4,none⟩=some (.int .i64 k)/\w.cell? ⟨b,x.len*4+1,none⟩=some (.int .i64 n)/\w.cell? ⟨b,x.len*4+2,none⟩=some (stv nm)/\w.cell? ⟨b,x.len*4+3,none⟩=some (.slice ak ks.len ck)/\SlcN w P ks ak ck:=by
 rcases h with h|⟨b,zs,cur,rfl,hp,hlt,h4,h5,h6,h7,hf⟩
 ·cases x using Fs.on with
  | nil=>cases h.1
  | cons k n nm a ks r=>cases h.1
 ·obtain ⟨zx,zy,rfl,h8,h9⟩:=FcNC.split hf;have hl:=h8.len;obtain ⟨ak,ck,ys,rfl,h10,h11⟩:=h9;have hc':∀ j u,(.int .i64 k::.int .i64 n::stv nm::.slice ak ks.len ck::ys:List Value)[j]?=some u->w.cell? ⟨b,x.len*4+j,none⟩=some u:=fun j u hu=>by
   rw[cell_of_row _ b _ _ _ (0,0) h5];exact h7 (x.len*4+j) u (by rw[List.getElem?_append_right (by omega),hl,Nat.add_sub_cancel_left];exact hu)
  exact ⟨b,ak,ck,rfl,hlt,hc' 0 _ rfl,hc' 1 _ rfl,hc' 2 _ rfl,hc' 3 _ rfl,h10⟩
def PostRu (v w:World)(P:Nat->Prop)(y:Ex)(x:Ending)(w':World):Prop:=∃ao cap,x=.returned (exN y ao cap)/\SlcN v P y.kids ao cap/\Below w.heap.size w w'
theorem SlcN.below {P:Nat->Prop}{w w':World}{f:Fs}{ao:Option Addr}{cap:Nat}(h:SlcN w P f ao cap)(b:Below w.heap.size w w'):SlcN w' P f ao cap:=h.mono (fun i _ hl=>b.block i hl) b.size (fun _ h _=>h)
theorem bxs {bx p q:Nat}{w v v':World}{E L R Z:Obj}(B:Below bx w v)(b:Below v.heap.size v v')(hE:v.heap[bx]?=some E)(hL:v.heap[p]?=some L)(hR:v.heap[q]?=some R)(hZ:v.heap[bx+1]?=some Z) :
  Below bx w v'/\v'.heap[bx]?=some E/\v'.heap[p]?=some L/\v'.heap[q]?=some R/\v'.heap[bx+1]?=some Z :=
 ⟨B.trans (b.mono (Nat.le_of_lt (lt_of_block hE))),(b.block _ (lt_of_block hE)).trans hE,(b.block _ (lt_of_block hL)).trans hL,(b.block _ (lt_of_block hR)).trans hR,(b.block _ (lt_of_block hZ)).trans hZ⟩
theorem hU4 {bx:Nat}{w v:World}(b0 b1 b2 b3:Value)(Z:v.heap[bx+1]?=some (.cells #[.int .i64 0,.int .i64 0,.string ⟨#[]⟩,.slice none 0 0] 34))(B:Below bx w v) :
  Hid (∃wz,wz=(((v.setCell ⟨bx+1,0,none⟩ b0).setCell ⟨bx+1,1,none⟩ b1).setCell ⟨bx+1,2,none⟩ b2).setCell ⟨bx+1,3,none⟩ b3/\wz.heap[bx+1]?=some (.cells #[b0,b1,b2,b3] 34)/\Below bx w wz) :=
 ⟨_,rfl,set4k Z,(((B.setCell (p:=⟨bx+1,0,none⟩) (Nat.le_succ _) b0).setCell (p:=⟨bx+1,1,none⟩) (Nat.le_succ _) b1).setCell (p:=⟨bx+1,2,none⟩) (Nat.le_succ _) b2).setCell (p:=⟨bx+1,3,none⟩) (Nat.le_succ _) b3⟩
def chE (e x y z:Ex):Ex:=if isE x 2 1 then y else if isE x 2 0 then z else e
theorem choice_c (e x y z:Ex)(ao:Option Addr)(cap:Nat)(P:Nat->Prop)(w:World)(hk:e.kids=.cons x.k x.n x.nm x.a x.kids (.cons y.k y.n y.nm y.a y.kids (.cons z.k z.n z.nm z.a z.kids .nil)))(S:SlcN w P e.kids ao cap) :
  Calls Tryz.prog 113 #[exN e ao cap] w (PostRu w w P (chE e x y z)):=by
 have hl:e.kids.len=3:=by rw[hk];rfl
 have HL:Hid (e.kids.len=3):=hl;have S1:=S;rw[hk] at S1;obtain ⟨b,a0,c0,rfl,hb,x0,x1,x2,x3,SX⟩:=SlcN.kidC (x:=.nil) S1;obtain ⟨b',a1,c1,hb1,-,y0,y1,y2,y3,SY⟩:=SlcN.kidC (x:=.cons x.k x.n x.nm x.a x.kids .nil) S1;cases hb1;obtain ⟨b',a2,c2,hb1,-,z0,z1,z2,z3,SZ⟩:=SlcN.kidC (x:=.cons x.k x.n x.nm x.a x.kids (.cons y.k y.n y.nm y.a y.kids .nil)) S1;cases hb1;simp only[Fs.len,Fs.nil,Fs.cons,Nat.zero_mul,Nat.zero_add,Nat.reduceMul,Nat.reduceAdd] at x0 x1 x2 x3 y0 y1 y2 y3 z0 z1 z2 z3;obtain ⟨w0,hw0⟩:∃w0,w0=(w.alloc (.cells #[.int .i64 e.k,.int .i64 e.n,stv e.nm,.slice (some ⟨b,0,none⟩) 3 cap] 34)).alloc (.cells #[.int .i64 0,.int .i64 0,.string ⟨#[]⟩,.slice none 0 0] 34):=⟨_,rfl⟩;have B0:Below w.heap.size w w0:=by rw[hw0];exact ((Below.refl _ w).alloc (Nat.le_refl _) _).alloc (by simp) _
 have E0:w0.heap[w.heap.size]?=some (.cells #[.int .i64 e.k,.int .i64 e.n,stv e.nm,.slice (some ⟨b,0,none⟩) 3 cap] 34):=by rw[hw0];exact (Below.heap_alloc _ _ _ (by simp)).trans (heap_alloc_new w _)
 have Z0:w0.heap[w.heap.size+1]?=some (.cells #[.int .i64 0,.int .i64 0,.string ⟨#[]⟩,.slice none 0 0] 34):=by
  rw[hw0]
  have:=heap_alloc_new (w.alloc (.cells #[.int .i64 e.k,.int .i64 e.n,stv e.nm,.slice (some ⟨b,0,none⟩) 3 cap] 34)) (.cells #[.int .i64 0,.int .i64 0,.string ⟨#[]⟩,.slice none 0 0] 34)
  simpa using this
 rw[exN_out,hl];go_enter Tryz.func113,Tryz.ntmps113;go_upto_region 1 with fail;rw[<-hw0];obtain ⟨bx,hbx⟩:∃bx,bx=w.heap.size:=⟨_,rfl⟩;rw[<-hbx] at E0 Z0 B0 hb ⊢;have HB:Hid (bx=w.heap.size):=hbx;clear hbx hw0 S1 hk hl;have x0:=(B0.cell (p:=⟨b,0,none⟩) hb).trans x0;have x1:=(B0.cell (p:=⟨b,1,none⟩) hb).trans x1;have x2:=(B0.cell (p:=⟨b,2,none⟩) hb).trans x2;have x3:=(B0.cell (p:=⟨b,3,none⟩) hb).trans x3;have y0:=(B0.cell (p:=⟨b,4,none⟩) hb).trans y0;have y1:=(B0.cell (p:=⟨b,5,none⟩) hb).trans y1;have y2:=(B0.cell (p:=⟨b,6,none⟩) hb).trans y2;have y3:=(B0.cell (p:=⟨b,7,none⟩) hb).trans y3;have z0:=(B0.cell (p:=⟨b,8,none⟩) hb).trans z0;have z1:=(B0.cell (p:=⟨b,9,none⟩) hb).trans z1;have z2:=(B0.cell (p:=⟨b,10,none⟩) hb).trans z2;have z3:=(B0.cell (p:=⟨b,11,none⟩) hb).trans z3;have hb0:b<w0.heap.size:=Nat.lt_trans hb (lt_of_block E0);obtain ⟨p0,p1,p2,p3,pf⟩:=box4 E0;have hc1:=istru_c x a0 c0 1 w0;rw[exN_out] at hc1;go_wp2_with fail;refine hc1.mono ?_;rintro u w2 ⟨rfl,b2⟩;have B2:Below bx w w2:=B0.trans (b2.mono (Nat.le_of_lt (lt_of_block E0)));have E2:=(b2.block bx (lt_of_block E0)).trans E0;have Z2:=(b2.block (bx+1) (lt_of_block Z0)).trans Z0;have x0:=(b2.cell (p:=⟨b,0,none⟩) hb0).trans x0;have x1:=(b2.cell (p:=⟨b,1,none⟩) hb0).trans x1;have x2:=(b2.cell (p:=⟨b,2,none⟩) hb0).trans x2;have x3:=(b2.cell (p:=⟨b,3,none⟩) hb0).trans x3;have y0:=(b2.cell (p:=⟨b,4,none⟩) hb0).trans y0;have y1:=(b2.cell (p:=⟨b,5,none⟩) hb0).trans y1;have y2:=(b2.cell (p:=⟨b,6,none⟩) hb0).trans y2;have y3:=(b2.cell (p:=⟨b,7,none⟩) hb0).trans y3;have z0:=(b2.cell (p:=⟨b,8,none⟩) hb0).trans z0;have z1:=(b2.cell (p:=⟨b,9,none⟩) hb0).trans z1;have z2:=(b2.cell (p:=⟨b,10,none⟩) hb0).trans z2;have z3:=(b2.cell (p:=⟨b,11,none⟩) hb0).trans z3;have hb2:b<w2.heap.size:=Nat.lt_of_lt_of_le hb0 b2.size;clear B0 E0 Z0 hc1 b2 p0 p1 p2 p3 pf hb0;cases h1:isE x 2 1 with
 | true =>
  have hans:chE e x y z=y:=by simp[chE,h1]
  have HU:=hU4 (.int .i64 y.k) (.int .i64 y.n) (stv y.nm) (.slice a1 y.kids.len c1) Z2 B2;obtain ⟨q0,q1,q2,q3,qf⟩:=box4 Z2;obtain ⟨p0,p1,p2,p3,pf⟩:=box4 E2;clear Z2 E2;go_wp2;obtain ⟨wz,hwz,EZ,BZ⟩:=HU.out;rw[<-hwz];obtain ⟨v0,v1,v2,v3,-⟩:=box4 EZ;rw[HB.out] at BZ;exact bodyPost_ret (v:=exN y a1 c1) (by simp[results,Tryz.results113,go_sem,v0,v1,v2,v3,exN]) rfl ⟨a1,c1,by rw[hans],by rw[hans];exact SY,BZ⟩
 | false =>
  have hc2:=istru_c x a0 c0 0 w2;rw[exN_out] at hc2;obtain ⟨p0,p1,p2,p3,pf⟩:=box4 E2;go_wp2_with fail;refine hc2.mono ?_;rintro u w3 ⟨rfl,b3⟩;have B3:Below bx w w3:=B2.trans (b3.mono (Nat.le_of_lt (lt_of_block E2)));have lE:=lt_of_block E2;have lZ:=lt_of_block Z2;have E2:=(b3.block bx lE).trans E2;have Z2:=(b3.block (bx+1) lZ).trans Z2;have z0:=(b3.cell (p:=⟨b,8,none⟩) hb2).trans z0;have z1:=(b3.cell (p:=⟨b,9,none⟩) hb2).trans z1;have z2:=(b3.cell (p:=⟨b,10,none⟩) hb2).trans z2;have z3:=(b3.cell (p:=⟨b,11,none⟩) hb2).trans z3;clear hc2 b3 B2 p0 p1 p2 p3 pf x0 x1 x2 x3 y0 y1 y2 y3 lE lZ;cases h2:isE x 2 0 with
  | true =>
   have hans:chE e x y z=z:=by simp[chE,h1,h2]
   have HU:=hU4 (.int .i64 z.k) (.int .i64 z.n) (stv z.nm) (.slice a2 z.kids.len c2) Z2 B3;obtain ⟨q0,q1,q2,q3,qf⟩:=box4 Z2;obtain ⟨p0,p1,p2,p3,pf⟩:=box4 E2;clear Z2 E2;go_wp2;obtain ⟨wz,hwz,EZ,BZ⟩:=HU.out;rw[<-hwz];obtain ⟨v0,v1,v2,v3,-⟩:=box4 EZ;rw[HB.out] at BZ;exact bodyPost_ret (v:=exN z a2 c2) (by simp[results,Tryz.results113,go_sem,v0,v1,v2,v3,exN]) rfl ⟨a2,c2,by rw[hans],by rw[hans];exact SZ,BZ⟩
  | false =>
   have hans:chE e x y z=e:=by simp[chE,h1,h2]
   have HU:=hU4 (.int .i64 e.k) (.int .i64 e.n) (stv e.nm) (.slice (some ⟨b,0,none⟩) 3 cap) Z2 B3;obtain ⟨q0,q1,q2,q3,qf⟩:=box4 Z2;obtain ⟨p0,p1,p2,p3,pf⟩:=box4 E2;clear Z2 E2;go_wp2;obtain ⟨wz,hwz,EZ,BZ⟩:=HU.out;rw[<-hwz];obtain ⟨v0,v1,v2,v3,-⟩:=box4 EZ;rw[HB.out] at BZ;exact bodyPost_ret (v:=exN e (some ⟨b,0,none⟩) cap) (by simp[results,Tryz.results113,go_sem,v0,v1,v2,v3,exN,HL.out]) rfl ⟨(some ⟨b,0,none⟩),cap,by rw[hans],by rw[hans];exact S,BZ⟩
def coE (e x y:Ex)(s:Int):Ex:=if isE x 2 s then x else if isE x 2 (1 - s) then y else if isE y 2 (1 - s) then x else e
theorem connective_c (e x y:Ex)(s:Int)(hs:s=0\/s=1)(ao:Option Addr)(cap:Nat)(P:Nat->Prop)(w:World)(hk:e.kids=.cons x.k x.n x.nm x.a x.kids (.cons y.k y.n y.nm y.a y.kids .nil))(S:SlcN w P e.kids ao cap) :
  Calls Tryz.prog 112 #[exN e ao cap,.int .i64 s] w (PostRu w w P (coE e x y s)):=by
 have hl:e.kids.len=2:=by rw[hk];rfl
 have HL:Hid (e.kids.len=2):=hl;have S1:=S;rw[hk] at S1;obtain ⟨b,a0,c0,rfl,hb,x0,x1,x2,x3,SX⟩:=SlcN.kidC (x:=.nil) S1;obtain ⟨b',a1,c1,hb1,-,y0,y1,y2,y3,SY⟩:=SlcN.kidC (x:=.cons x.k x.n x.nm x.a x.kids .nil) S1;cases hb1;simp only[Fs.len,Fs.nil,Fs.cons,Nat.zero_mul,Nat.zero_add,Nat.reduceMul,Nat.reduceAdd] at x0 x1 x2 x3 y0 y1 y2 y3;obtain ⟨w0,hw0⟩:∃w0,w0=(w.alloc (.cells #[.int .i64 e.k,.int .i64 e.n,stv e.nm,.slice (some ⟨b,0,none⟩) 2 cap] 34)).alloc (.cells #[.int .i64 0,.int .i64 0,.string ⟨#[]⟩,.slice none 0 0] 34):=⟨_,rfl⟩;have B0:Below w.heap.size w w0:=by rw[hw0];exact ((Below.refl _ w).alloc (Nat.le_refl _) _).alloc (by simp) _
 have E0:w0.heap[w.heap.size]?=some (.cells #[.int .i64 e.k,.int .i64 e.n,stv e.nm,.slice (some ⟨b,0,none⟩) 2 cap] 34):=by rw[hw0];exact (Below.heap_alloc _ _ _ (by simp)).trans (heap_alloc_new w _)
 have Z0:w0.heap[w.heap.size+1]?=some (.cells #[.int .i64 0,.int .i64 0,.string ⟨#[]⟩,.slice none 0 0] 34):=by
  rw[hw0]
  have:=heap_alloc_new (w.alloc (.cells #[.int .i64 e.k,.int .i64 e.n,stv e.nm,.slice (some ⟨b,0,none⟩) 2 cap] 34)) (.cells #[.int .i64 0,.int .i64 0,.string ⟨#[]⟩,.slice none 0 0] 34)
  simpa using this
 rw[exN_out,hl];go_enter Tryz.func112,Tryz.ntmps112;go_upto_region 1 with fail;rw[<-hw0];obtain ⟨bx,hbx⟩:∃bx,bx=w.heap.size:=⟨_,rfl⟩;rw[<-hbx] at E0 Z0 B0 hb ⊢;have HB:Hid (bx=w.heap.size):=hbx;clear hbx hw0 S1 hk hl;have x0:=(B0.cell (p:=⟨b,0,none⟩) hb).trans x0;have x1:=(B0.cell (p:=⟨b,1,none⟩) hb).trans x1;have x2:=(B0.cell (p:=⟨b,2,none⟩) hb).trans x2;have x3:=(B0.cell (p:=⟨b,3,none⟩) hb).trans x3;have y0:=(B0.cell (p:=⟨b,4,none⟩) hb).trans y0;have y1:=(B0.cell (p:=⟨b,5,none⟩) hb).trans y1;have y2:=(B0.cell (p:=⟨b,6,none⟩) hb).trans y2;have y3:=(B0.cell (p:=⟨b,7,none⟩) hb).trans y3;have hb0:b<w0.heap.size:=Nat.lt_trans hb (lt_of_block E0);obtain ⟨p0,p1,p2,p3,pf⟩:=box4 E0;have l1:bx<w0.heap.size:=lt_of_block E0;have l2:bx<w0.heap.size+1:=Nat.lt_succ_of_lt l1;have l3:b<w0.heap.size+1:=Nat.lt_succ_of_lt hb0;have hs1:-9223372036854775808<=1 - s:=by omega
 have hs2:1 - s<=9223372036854775807:=by omega
 go_region
 all_goals (
  first
   | (
    obtain ⟨w1,hw1⟩:∃w1,w1=((w0.alloc (.cells #[.int .i64 x.k,.int .i64 x.n,.string ⟨x.nm.toArray⟩,.slice a0 x.kids.len c0] 34)).alloc (.cells #[.int .i64 y.k,.int .i64 y.n,.string ⟨y.nm.toArray⟩,.slice a1 y.kids.len c1] 34)).drew:=⟨_,rfl⟩;obtain ⟨p,hp⟩:∃p,p=w0.heap.size:=⟨_,rfl⟩;obtain ⟨q,hq⟩:∃q,q=w0.heap.size+1:=⟨_,rfl⟩;have B1:Below bx w w1:=by rw[hw1];exact ((B0.alloc (Nat.le_of_lt l1) _).alloc (by simp;omega) _).drew
    have D1:Below w0.heap.size w0 w1:=by rw[hw1];exact (((Below.refl _ w0).alloc (Nat.le_refl _) _).alloc (by simp) _).drew
    have E1:=(D1.block bx l1).trans E0;have Z1:=(D1.block (bx+1) (lt_of_block Z0)).trans Z0;have L1:w1.heap[p]?=some (.cells #[.int .i64 x.k,.int .i64 x.n,stv x.nm,.slice a0 x.kids.len c0] 34):=by
     rw[hw1,hp];exact (Below.heap_alloc _ _ _ (by simp)).trans (heap_alloc_new w0 _)
    have R1:w1.heap[q]?=some (.cells #[.int .i64 y.k,.int .i64 y.n,stv y.nm,.slice a1 y.kids.len c1] 34):=by
     rw[hw1,hq];exact by have:=heap_alloc_new (w0.alloc (.cells #[.int .i64 x.k,.int .i64 x.n,.string ⟨x.nm.toArray⟩,.slice a0 x.kids.len c0] 34)) (.cells #[.int .i64 y.k,.int .i64 y.n,.string ⟨y.nm.toArray⟩,.slice a1 y.kids.len c1] 34);rw[show (w0.alloc (.cells #[.int .i64 x.k,.int .i64 x.n,.string ⟨x.nm.toArray⟩,.slice a0 x.kids.len c0] 34)).heap.size=w0.heap.size+1 by simp] at this;exact this
    rw[<-hw1,<-hq,<-hp];clear hw1 hp hq D1 B0 E0 Z0 l1 l2 l3 hb0 hb p0 p1 p2 p3 pf x0 x1 x2 x3 y0 y1 y2 y3)
   | (
    obtain ⟨w1,hw1⟩:∃w1,w1=((w0.alloc (.cells #[.int .i64 y.k,.int .i64 y.n,.string ⟨y.nm.toArray⟩,.slice a1 y.kids.len c1] 34)).alloc (.cells #[.int .i64 x.k,.int .i64 x.n,.string ⟨x.nm.toArray⟩,.slice a0 x.kids.len c0] 34)).drew:=⟨_,rfl⟩;obtain ⟨p,hp⟩:∃p,p=w0.heap.size+1:=⟨_,rfl⟩;obtain ⟨q,hq⟩:∃q,q=w0.heap.size:=⟨_,rfl⟩;have B1:Below bx w w1:=by rw[hw1];exact ((B0.alloc (Nat.le_of_lt l1) _).alloc (by simp;omega) _).drew
    have D1:Below w0.heap.size w0 w1:=by rw[hw1];exact (((Below.refl _ w0).alloc (Nat.le_refl _) _).alloc (by simp) _).drew
    have E1:=(D1.block bx l1).trans E0;have Z1:=(D1.block (bx+1) (lt_of_block Z0)).trans Z0;have L1:w1.heap[p]?=some (.cells #[.int .i64 x.k,.int .i64 x.n,stv x.nm,.slice a0 x.kids.len c0] 34):=by
     rw[hw1,hp];exact by have:=heap_alloc_new (w0.alloc (.cells #[.int .i64 y.k,.int .i64 y.n,.string ⟨y.nm.toArray⟩,.slice a1 y.kids.len c1] 34)) (.cells #[.int .i64 x.k,.int .i64 x.n,.string ⟨x.nm.toArray⟩,.slice a0 x.kids.len c0] 34);rw[show (w0.alloc (.cells #[.int .i64 y.k,.int .i64 y.n,.string ⟨y.nm.toArray⟩,.slice a1 y.kids.len c1] 34)).heap.size=w0.heap.size+1 by simp] at this;exact this
    have R1:w1.heap[q]?=some (.cells #[.int .i64 y.k,.int .i64 y.n,stv y.nm,.slice a1 y.kids.len c1] 34):=by
     rw[hw1,hq];exact (Below.heap_alloc _ _ _ (by simp)).trans (heap_alloc_new w0 _)
    rw[<-hw1,<-hp,<-hq];clear hw1 hp hq D1 B0 E0 Z0 l1 l2 l3 hb0 hb p0 p1 p2 p3 pf x0 x1 x2 x3 y0 y1 y2 y3)
  have hc:=istru_c x a0 c0 (s) w1;rw[exN_out] at hc;obtain ⟨p0,p1,p2,p3,pf⟩:=box4 L1;go_wp2_with fail;refine hc.mono ?_;rintro u w2 ⟨rfl,b2⟩;obtain ⟨B2,E1,L1,R1,Z1⟩:=bxs B1 b2 E1 L1 R1 Z1;clear hc b2 p0 p1 p2 p3 pf B1;cases h1:isE x 2 s with
  | true =>
   have hans:coE e x y s=x:=by simp[coE,h1]
   have HU:=hU4 (.int .i64 x.k) (.int .i64 x.n) (stv x.nm) (.slice a0 x.kids.len c0) Z1 B2;obtain ⟨q0,q1,q2,q3,qf⟩:=box4 Z1;obtain ⟨p0,p1,p2,p3,pf⟩:=box4 L1;clear Z1 E1 L1 R1;go_wp2;obtain ⟨wz,hwz,EZ,BZ⟩:=HU.out;rw[<-hwz];obtain ⟨v0,v1,v2,v3,-⟩:=box4 EZ;rw[HB.out] at BZ;exact bodyPost_ret (v:=exN x a0 c0) (by simp[results,Tryz.results112,go_sem,v0,v1,v2,v3,exN]) rfl ⟨a0,c0,by rw[hans],by rw[hans];exact SX,BZ⟩
  | false =>
   have hc:=istru_c x a0 c0 (1 - s) w2;rw[exN_out] at hc;obtain ⟨p0,p1,p2,p3,pf⟩:=box4 L1;go_wp2_with fail;refine hc.mono ?_;rintro u w3 ⟨rfl,b3⟩;obtain ⟨B3,E1,L1,R1,Z1⟩:=bxs B2 b3 E1 L1 R1 Z1;clear hc b3 p0 p1 p2 p3 pf B2;cases h2:isE x 2 (1 - s) with
   | true =>
    have hans:coE e x y s=y:=by simp[coE,h1,h2]
    have HU:=hU4 (.int .i64 y.k) (.int .i64 y.n) (stv y.nm) (.slice a1 y.kids.len c1) Z1 B3;obtain ⟨q0,q1,q2,q3,qf⟩:=box4 Z1;obtain ⟨p0,p1,p2,p3,pf⟩:=box4 R1;clear Z1 E1 L1 R1;go_wp2;obtain ⟨wz,hwz,EZ,BZ⟩:=HU.out;rw[<-hwz];obtain ⟨v0,v1,v2,v3,-⟩:=box4 EZ;rw[HB.out] at BZ;exact bodyPost_ret (v:=exN y a1 c1) (by simp[results,Tryz.results112,go_sem,v0,v1,v2,v3,exN]) rfl ⟨a1,c1,by rw[hans],by rw[hans];exact SY,BZ⟩
   | false =>
    have hc:=istru_c y a1 c1 (1 - s) w3;rw[exN_out] at hc;obtain ⟨p0,p1,p2,p3,pf⟩:=box4 R1;go_wp2_with fail;refine hc.mono ?_;rintro u w4 ⟨rfl,b4⟩;obtain ⟨B4,E1,L1,R1,Z1⟩:=bxs B3 b4 E1 L1 R1 Z1;clear hc b4 p0 p1 p2 p3 pf B3;cases h3:isE y 2 (1 - s) with
    | true =>
     have hans:coE e x y s=x:=by simp[coE,h1,h2,h3]
     have HU:=hU4 (.int .i64 x.k) (.int .i64 x.n) (stv x.nm) (.slice a0 x.kids.len c0) Z1 B4;obtain ⟨q0,q1,q2,q3,qf⟩:=box4 Z1;obtain ⟨p0,p1,p2,p3,pf⟩:=box4 L1;clear Z1 E1 L1 R1;go_wp2;obtain ⟨wz,hwz,EZ,BZ⟩:=HU.out;rw[<-hwz];obtain ⟨v0,v1,v2,v3,-⟩:=box4 EZ;rw[HB.out] at BZ;exact bodyPost_ret (v:=exN x a0 c0) (by simp[results,Tryz.results112,go_sem,v0,v1,v2,v3,exN]) rfl ⟨a0,c0,by rw[hans],by rw[hans];exact SX,BZ⟩
    | false =>
     have hans:coE e x y s=e:=by simp[coE,h1,h2,h3]
     have HU:=hU4 (.int .i64 e.k) (.int .i64 e.n) (stv e.nm) (.slice (some ⟨b,0,none⟩) 2 cap) Z1 B4;obtain ⟨q0,q1,q2,q3,qf⟩:=box4 Z1;obtain ⟨p0,p1,p2,p3,pf⟩:=box4 E1;clear Z1 E1 L1 R1;go_wp2;obtain ⟨wz,hwz,EZ,BZ⟩:=HU.out;rw[<-hwz];obtain ⟨v0,v1,v2,v3,-⟩:=box4 EZ;rw[HB.out] at BZ;exact bodyPost_ret (v:=exN e (some ⟨b,0,none⟩) cap) (by simp[results,Tryz.results112,go_sem,v0,v1,v2,v3,exN,HL.out]) rfl ⟨(some ⟨b,0,none⟩),cap,by rw[hans],by rw[hans];exact S,BZ⟩)
def unE (e:Ex):Ex:=if e.n=1 then truE true else if e.n=2 then truE false else if e.n=3\/e.n=4 then numE 0 else e
theorem unmoved_c (e:Ex)(ao:Option Addr)(cap:Nat)(P:Nat->Prop)(v w:World)(S:SlcN v P e.kids ao cap) :
  Calls Tryz.prog 167 #[exN e ao cap] w (PostRu v w P (unE e)):=by
 obtain ⟨w0,hw0⟩:∃w0,w0=(w.alloc (.cells #[.int .i64 e.k,.int .i64 e.n,stv e.nm,.slice ao e.kids.len cap] 34)).alloc (.cells #[.int .i64 0,.int .i64 0,.string ⟨#[]⟩,.slice none 0 0] 34):=⟨_,rfl⟩;have B0:Below w.heap.size w w0:=by rw[hw0];exact ((Below.refl _ w).alloc (Nat.le_refl _) _).alloc (by simp) _
 have E0:w0.heap[w.heap.size]?=some (.cells #[.int .i64 e.k,.int .i64 e.n,stv e.nm,.slice ao e.kids.len cap] 34):=by rw[hw0];exact (Below.heap_alloc _ _ _ (by simp)).trans (heap_alloc_new w _)
 have Z0:w0.heap[w.heap.size+1]?=some (.cells #[.int .i64 0,.int .i64 0,.string ⟨#[]⟩,.slice none 0 0] 34):=by
  rw[hw0]
  have:=heap_alloc_new (w.alloc (.cells #[.int .i64 e.k,.int .i64 e.n,stv e.nm,.slice ao e.kids.len cap] 34)) (.cells #[.int .i64 0,.int .i64 0,.string ⟨#[]⟩,.slice none 0 0] 34)
  simpa using this
 rw[exN_out];go_enter Tryz.func167,Tryz.ntmps167;go_upto_region 1 with fail;rw[<-hw0];obtain ⟨bx,hbx⟩:∃bx,bx=w.heap.size:=⟨_,rfl⟩;rw[<-hbx] at E0 Z0 B0 ⊢;have HB:Hid (bx=w.heap.size):=hbx;clear hbx hw0;by_cases h1:e.n=1
 ·have hans:unE e=truE true:=by simp[unE,h1]
  have n1:(e.n==1)=true:=by rw[h1];rfl
  have n2:(e.n==2)=false:=by rw[h1];rfl
  have n3:(e.n==3)=false:=by rw[h1];rfl
  have n4:(e.n==4)=false:=by rw[h1];rfl
  clear h1;have HU:=hU4 (.int .i64 2) (.int .i64 1) (.string ⟨#[]⟩) (.slice none 0 0) Z0 B0;obtain ⟨q0,q1,q2,q3,qf⟩:=box4 Z0;obtain ⟨p0,p1,p2,p3,pf⟩:=box4 E0;clear Z0 E0;go_wp2;obtain ⟨wz,hwz,EZ,BZ⟩:=HU.out;rw[<-hwz];obtain ⟨v0,v1,v2,v3,-⟩:=box4 EZ;rw[HB.out] at BZ;exact bodyPost_ret (v:=exN (truE true) none 0) (by simp[results,Tryz.results167,go_sem,v0,v1,v2,v3,exN,truE,trI,stv,Fs.nil,Fs.len]) rfl ⟨none,0,by rw[hans],by rw[hans];exact SlcN.nil _ _,BZ⟩
 by_cases h2:e.n=2
 ·have hans:unE e=truE false:=by simp[unE,h2]
  have n1:(e.n==1)=false:=by rw[h2];rfl
  have n2:(e.n==2)=true:=by rw[h2];rfl
  have n3:(e.n==3)=false:=by rw[h2];rfl
  have n4:(e.n==4)=false:=by rw[h2];rfl
  clear h2 h1;have HU:=hU4 (.int .i64 2) (.int .i64 0) (.string ⟨#[]⟩) (.slice none 0 0) Z0 B0;obtain ⟨q0,q1,q2,q3,qf⟩:=box4 Z0;obtain ⟨p0,p1,p2,p3,pf⟩:=box4 E0;clear Z0 E0;go_wp2;obtain ⟨wz,hwz,EZ,BZ⟩:=HU.out;rw[<-hwz];obtain ⟨v0,v1,v2,v3,-⟩:=box4 EZ;rw[HB.out] at BZ;exact bodyPost_ret (v:=exN (truE false) none 0) (by simp[results,Tryz.results167,go_sem,v0,v1,v2,v3,exN,truE,trI,stv,Fs.nil,Fs.len]) rfl ⟨none,0,by rw[hans],by rw[hans];exact SlcN.nil _ _,BZ⟩
 by_cases h3:e.n=3
 ·have hans:unE e=numE 0:=by simp[unE,h3]
  have n1:(e.n==1)=false:=by rw[h3];rfl
  have n2:(e.n==2)=false:=by rw[h3];rfl
  have n3:(e.n==3)=true:=by rw[h3];rfl
  have n4:(e.n==4)=false:=by rw[h3];rfl
  clear h3 h1 h2;have HU:=hU4 (.int .i64 1) (.int .i64 0) (.string ⟨#[]⟩) (.slice none 0 0) Z0 B0;obtain ⟨q0,q1,q2,q3,qf⟩:=box4 Z0;obtain ⟨p0,p1,p2,p3,pf⟩:=box4 E0;clear Z0 E0;go_wp2;obtain ⟨wz,hwz,EZ,BZ⟩:=HU.out;rw[<-hwz];obtain ⟨v0,v1,v2,v3,-⟩:=box4 EZ;rw[HB.out] at BZ;exact bodyPost_ret (v:=exN (numE 0) none 0) (by simp[results,Tryz.results167,go_sem,v0,v1,v2,v3,exN,numE,stv,Fs.nil,Fs.len]) rfl ⟨none,0,by rw[hans],by rw[hans];exact SlcN.nil _ _,BZ⟩
 by_cases h4:e.n=4
 ·have hans:unE e=numE 0:=by simp[unE,h4]
  have n1:(e.n==1)=false:=by rw[h4];rfl
  have n2:(e.n==2)=false:=by rw[h4];rfl
  have n3:(e.n==3)=false:=by rw[h4];rfl
  have n4:(e.n==4)=true:=by rw[h4];rfl
  clear h4 h1 h2 h3;have HU:=hU4 (.int .i64 1) (.int .i64 0) (.string ⟨#[]⟩) (.slice none 0 0) Z0 B0;obtain ⟨q0,q1,q2,q3,qf⟩:=box4 Z0;obtain ⟨p0,p1,p2,p3,pf⟩:=box4 E0;clear Z0 E0;go_wp2;obtain ⟨wz,hwz,EZ,BZ⟩:=HU.out;rw[<-hwz];obtain ⟨v0,v1,v2,v3,-⟩:=box4 EZ;rw[HB.out] at BZ;exact bodyPost_ret (v:=exN (numE 0) none 0) (by simp[results,Tryz.results167,go_sem,v0,v1,v2,v3,exN,numE,stv,Fs.nil,Fs.len]) rfl ⟨none,0,by rw[hans],by rw[hans];exact SlcN.nil _ _,BZ⟩
 have hans:unE e=e:=by simp[unE,h1,h2,h3,h4]
 have n1:(e.n==1)=false:=by simpa using h1
 have n2:(e.n==2)=false:=by simpa using h2
 have n3:(e.n==3)=false:=by simpa using h3
 have n4:(e.n==4)=false:=by simpa using h4
 clear h1 h2 h3 h4;have HU:=hU4 (.int .i64 e.k) (.int .i64 e.n) (stv e.nm) (.slice ao e.kids.len cap) Z0 B0;obtain ⟨q0,q1,q2,q3,qf⟩:=box4 Z0;obtain ⟨p0,p1,p2,p3,pf⟩:=box4 E0;clear Z0 E0;go_wp2;obtain ⟨wz,hwz,EZ,BZ⟩:=HU.out;rw[<-hwz];obtain ⟨v0,v1,v2,v3,-⟩:=box4 EZ;rw[HB.out] at BZ;exact bodyPost_ret (v:=exN (e) ao cap) (by simp[results,Tryz.results167,go_sem,v0,v1,v2,v3,exN,exN]) rfl ⟨ao,cap,by rw[hans],by rw[hans];exact S,BZ⟩
def idE (n:Int)(e:Ex):Bool:=if n=1 then isE e 2 1 else if n=2\/n=3 then isE e 2 0 else false
theorem isidle_c (n:Int)(e:Ex)(ao:Option Addr)(cap:Nat)(w:World):Calls Tryz.prog 166 #[.int .i64 n,exN e ao cap] w fun x w'=>x=.returned (.bool (idE n e))/\Below w.heap.size w w':=by
 have B0:Below w.heap.size w (w.alloc (.cells #[.int .i64 e.k,.int .i64 e.n,stv e.nm,.slice ao e.kids.len cap] 34)):=(Below.refl _ w).alloc (Nat.le_refl _) _;have E0:(w.alloc (.cells #[.int .i64 e.k,.int .i64 e.n,stv e.nm,.slice ao e.kids.len cap] 34)).heap[w.heap.size]?=some (.cells #[.int .i64 e.k,.int .i64 e.n,stv e.nm,.slice ao e.kids.len cap] 34):=heap_alloc_new w _;rw[exN_out];go_enter Tryz.func166,Tryz.ntmps166;go_upto_region 1 with fail;generalize w.alloc (.cells #[.int .i64 e.k,.int .i64 e.n,stv e.nm,.slice ao e.kids.len cap] 34)=w0 at *;obtain ⟨bx,hbx⟩:∃bx,bx=w.heap.size:=⟨_,rfl⟩;rw[<-hbx] at E0 B0 ⊢;have HB:Hid (bx=w.heap.size):=hbx;clear hbx;obtain ⟨p0,p1,p2,p3,pf⟩:=box4 E0;have hle:bx<=w0.heap.size:=Nat.le_of_lt (lt_of_block E0);by_cases h1:n=1
 ·have hans:idE n e=isE e 2 1:=by simp[idE,h1]
  have hc:=istru_c e ao cap 1 w0;rw[exN_out] at hc;have n1:(n==1)=true:=by rw[h1];rfl
  have n2:(n==2)=false:=by rw[h1];rfl
  have n3:(n==3)=false:=by rw[h1];rfl
  clear h1;go_wp2_with fail;refine hc.mono ?_;rintro u w2 ⟨rfl,b2⟩;go_wp2;go_ret;exact ⟨by rw[hans];rfl,by rw[<-HB.out];exact B0.trans (b2.mono hle)⟩
 by_cases h2:n=2
 ·have hans:idE n e=isE e 2 0:=by simp[idE,h2]
  have hc:=istru_c e ao cap 0 w0;rw[exN_out] at hc;have n1:(n==1)=false:=by rw[h2];rfl
  have n2:(n==2)=true:=by rw[h2];rfl
  have n3:(n==3)=false:=by rw[h2];rfl
  clear h1 h2;go_wp2_with fail;refine hc.mono ?_;rintro u w2 ⟨rfl,b2⟩;go_wp2;go_ret;exact ⟨by rw[hans];rfl,by rw[<-HB.out];exact B0.trans (b2.mono hle)⟩
 by_cases h3:n=3
 ·have hans:idE n e=isE e 2 0:=by simp[idE,h3]
  have hc:=istru_c e ao cap 0 w0;rw[exN_out] at hc;have n1:(n==1)=false:=by rw[h3];rfl
  have n2:(n==2)=false:=by rw[h3];rfl
  have n3:(n==3)=true:=by rw[h3];rfl
  clear h1 h2 h3;go_wp2_with fail;refine hc.mono ?_;rintro u w2 ⟨rfl,b2⟩;go_wp2;go_ret;exact ⟨by rw[hans];rfl,by rw[<-HB.out];exact B0.trans (b2.mono hle)⟩
 have hans:idE n e=false:=by simp[idE,h1,h2,h3]
 have n1:(n==1)=false:=by simpa using h1
 have n2:(n==2)=false:=by simpa using h2
 have n3:(n==3)=false:=by simpa using h3
 clear h1 h2 h3;go_wp2;go_ret;exact ⟨by rw[hans];rfl,by rw[<-HB.out];exact B0⟩
def qnE (e x y:Ex):Ex:=if (x.k=25/\x.kids.len=0)\/(x.k=22/\idE e.n y=true) then unE e else e
theorem quantifier_c (e x y:Ex)(ao:Option Addr)(cap:Nat)(P:Nat->Prop)(w:World)(hk:e.kids=.cons x.k x.n x.nm x.a x.kids (.cons y.k y.n y.nm y.a y.kids .nil))(S:SlcN w P e.kids ao cap) :
  Calls Tryz.prog 114 #[exN e ao cap] w (PostRu w w P (qnE e x y)):=by
 have hl:e.kids.len=2:=by rw[hk];rfl
 have HL:Hid (e.kids.len=2):=hl;have S1:=S;rw[hk] at S1;obtain ⟨b,a0,c0,rfl,hb,x0,x1,x2,x3,SX⟩:=SlcN.kidC (x:=.nil) S1;obtain ⟨b',a1,c1,hb1,-,y0,y1,y2,y3,SY⟩:=SlcN.kidC (x:=.cons x.k x.n x.nm x.a x.kids .nil) S1;cases hb1;simp only[Fs.len,Fs.nil,Fs.cons,Nat.zero_mul,Nat.zero_add,Nat.reduceMul,Nat.reduceAdd] at x0 x1 x2 x3 y0 y1 y2 y3;obtain ⟨w0,hw0⟩:∃w0,w0=(w.alloc (.cells #[.int .i64 e.k,.int .i64 e.n,stv e.nm,.slice (some ⟨b,0,none⟩) 2 cap] 34)).alloc (.cells #[.int .i64 0,.int .i64 0,.string ⟨#[]⟩,.slice none 0 0] 34):=⟨_,rfl⟩;have B0:Below w.heap.size w w0:=by rw[hw0];exact ((Below.refl _ w).alloc (Nat.le_refl _) _).alloc (by simp) _
 have E0:w0.heap[w.heap.size]?=some (.cells #[.int .i64 e.k,.int .i64 e.n,stv e.nm,.slice (some ⟨b,0,none⟩) 2 cap] 34):=by rw[hw0];exact (Below.heap_alloc _ _ _ (by simp)).trans (heap_alloc_new w _)
 have Z0:w0.heap[w.heap.size+1]?=some (.cells #[.int .i64 0,.int .i64 0,.string ⟨#[]⟩,.slice none 0 0] 34):=by
  rw[hw0]
  have:=heap_alloc_new (w.alloc (.cells #[.int .i64 e.k,.int .i64 e.n,stv e.nm,.slice (some ⟨b,0,none⟩) 2 cap] 34)) (.cells #[.int .i64 0,.int .i64 0,.string ⟨#[]⟩,.slice none 0 0] 34)
  simpa using this
 rw[exN_out,hl];go_enter Tryz.func114,Tryz.ntmps114;go_upto_region 1 with fail;rw[<-hw0];obtain ⟨bx,hbx⟩:∃bx,bx=w.heap.size:=⟨_,rfl⟩;rw[<-hbx] at E0 Z0 B0 hb ⊢;have HB:Hid (bx=w.heap.size):=hbx;clear hbx hw0 S1 hk hl;have x0:=(B0.cell (p:=⟨b,0,none⟩) hb).trans x0;have x1:=(B0.cell (p:=⟨b,1,none⟩) hb).trans x1;have x2:=(B0.cell (p:=⟨b,2,none⟩) hb).trans x2;have x3:=(B0.cell (p:=⟨b,3,none⟩) hb).trans x3;have y0:=(B0.cell (p:=⟨b,4,none⟩) hb).trans y0;have y1:=(B0.cell (p:=⟨b,5,none⟩) hb).trans y1;have y2:=(B0.cell (p:=⟨b,6,none⟩) hb).trans y2;have y3:=(B0.cell (p:=⟨b,7,none⟩) hb).trans y3;have hb0:b<w0.heap.size:=Nat.lt_trans hb (lt_of_block E0);obtain ⟨p0,p1,p2,p3,pf⟩:=box4 E0;have l1:bx<w0.heap.size:=lt_of_block E0;have l2:bx<w0.heap.size+1:=Nat.lt_succ_of_lt l1;have l3:b<w0.heap.size+1:=Nat.lt_succ_of_lt hb0
 go_region
 all_goals (
  first
   | (
    obtain ⟨w1,hw1⟩:∃w1,w1=((w0.alloc (.cells #[.int .i64 x.k,.int .i64 x.n,.string ⟨x.nm.toArray⟩,.slice a0 x.kids.len c0] 34)).alloc (.cells #[.int .i64 y.k,.int .i64 y.n,.string ⟨y.nm.toArray⟩,.slice a1 y.kids.len c1] 34)).drew:=⟨_,rfl⟩;obtain ⟨p,hp⟩:∃p,p=w0.heap.size:=⟨_,rfl⟩;obtain ⟨q,hq⟩:∃q,q=w0.heap.size+1:=⟨_,rfl⟩;have B1:Below bx w w1:=by rw[hw1];exact ((B0.alloc (Nat.le_of_lt l1) _).alloc (by simp;omega) _).drew
    have D1:Below w0.heap.size w0 w1:=by rw[hw1];exact (((Below.refl _ w0).alloc (Nat.le_refl _) _).alloc (by simp) _).drew
    have E1:=(D1.block bx l1).trans E0;have Z1:=(D1.block (bx+1) (lt_of_block Z0)).trans Z0;have L1:w1.heap[p]?=some (.cells #[.int .i64 x.k,.int .i64 x.n,stv x.nm,.slice a0 x.kids.len c0] 34):=by
     rw[hw1,hp];exact (Below.heap_alloc _ _ _ (by simp)).trans (heap_alloc_new w0 _)
    have R1:w1.heap[q]?=some (.cells #[.int .i64 y.k,.int .i64 y.n,stv y.nm,.slice a1 y.kids.len c1] 34):=by
     rw[hw1,hq];exact by have:=heap_alloc_new (w0.alloc (.cells #[.int .i64 x.k,.int .i64 x.n,.string ⟨x.nm.toArray⟩,.slice a0 x.kids.len c0] 34)) (.cells #[.int .i64 y.k,.int .i64 y.n,.string ⟨y.nm.toArray⟩,.slice a1 y.kids.len c1] 34);rw[show (w0.alloc (.cells #[.int .i64 x.k,.int .i64 x.n,.string ⟨x.nm.toArray⟩,.slice a0 x.kids.len c0] 34)).heap.size=w0.heap.size+1 by simp] at this;exact this
    rw[<-hw1,<-hq,<-hp];clear hw1 hp hq D1 B0 E0 Z0 l1 l2 l3 hb0 hb p0 p1 p2 p3 pf x0 x1 x2 x3 y0 y1 y2 y3)
   | (
    obtain ⟨w1,hw1⟩:∃w1,w1=((w0.alloc (.cells #[.int .i64 y.k,.int .i64 y.n,.string ⟨y.nm.toArray⟩,.slice a1 y.kids.len c1] 34)).alloc (.cells #[.int .i64 x.k,.int .i64 x.n,.string ⟨x.nm.toArray⟩,.slice a0 x.kids.len c0] 34)).drew:=⟨_,rfl⟩;obtain ⟨p,hp⟩:∃p,p=w0.heap.size+1:=⟨_,rfl⟩;obtain ⟨q,hq⟩:∃q,q=w0.heap.size:=⟨_,rfl⟩;have B1:Below bx w w1:=by rw[hw1];exact ((B0.alloc (Nat.le_of_lt l1) _).alloc (by simp;omega) _).drew
    have D1:Below w0.heap.size w0 w1:=by rw[hw1];exact (((Below.refl _ w0).alloc (Nat.le_refl _) _).alloc (by simp) _).drew
    have E1:=(D1.block bx l1).trans E0;have Z1:=(D1.block (bx+1) (lt_of_block Z0)).trans Z0;have L1:w1.heap[p]?=some (.cells #[.int .i64 x.k,.int .i64 x.n,stv x.nm,.slice a0 x.kids.len c0] 34):=by
     rw[hw1,hp];exact by have:=heap_alloc_new (w0.alloc (.cells #[.int .i64 y.k,.int .i64 y.n,.string ⟨y.nm.toArray⟩,.slice a1 y.kids.len c1] 34)) (.cells #[.int .i64 x.k,.int .i64 x.n,.string ⟨x.nm.toArray⟩,.slice a0 x.kids.len c0] 34);rw[show (w0.alloc (.cells #[.int .i64 y.k,.int .i64 y.n,.string ⟨y.nm.toArray⟩,.slice a1 y.kids.len c1] 34)).heap.size=w0.heap.size+1 by simp] at this;exact this
    have R1:w1.heap[q]?=some (.cells #[.int .i64 y.k,.int .i64 y.n,stv y.nm,.slice a1 y.kids.len c1] 34):=by
     rw[hw1,hq];exact (Below.heap_alloc _ _ _ (by simp)).trans (heap_alloc_new w0 _)
    rw[<-hw1,<-hp,<-hq];clear hw1 hp hq D1 B0 E0 Z0 l1 l2 l3 hb0 hb p0 p1 p2 p3 pf x0 x1 x2 x3 y0 y1 y2 y3)
  by_cases h5:x.k=25
  ·have k5:(x.k==25)=true:=by simpa using h5
   have k2:(x.k==22)=false:=by rw[h5];rfl
   by_cases h0:x.kids.len=0
   ·have hans:qnE e x y=unE e:=by unfold qnE;rw[if_pos (.inl ⟨h5,h0⟩)]
    have k0:((x.kids.len:Int)==0)=true:=by rw[h0];rfl
    clear h5;have hc:=unmoved_c e (some ⟨b,0,none⟩) cap P w w1 S;rw[exN_out,HL.out] at hc;obtain ⟨p0,p1,p2,p3,pf⟩:=box4 E1;obtain ⟨r0,r1,r2,r3,rf⟩:=box4 L1;obtain ⟨s0,s1,s2,s3,sf⟩:=box4 R1;go_wp2_with fail;refine hc.mono ?_;rintro u w2 ⟨aU,cU,rfl,SU,b2⟩;obtain ⟨B2,E1,L1,R1,Z1⟩:=bxs B1 b2 E1 L1 R1 Z1;clear hc b2 p0 p1 p2 p3 pf r0 r1 r2 r3 rf s0 s1 s2 s3 sf B1;rw[exN_out];generalize unE e=U at *;have HU:=hU4 (.int .i64 U.k) (.int .i64 U.n) (stv U.nm) (.slice aU U.kids.len cU) Z1 B2;obtain ⟨q0,q1,q2,q3,qf⟩:=box4 Z1;obtain ⟨p0,p1,p2,p3,pf⟩:=box4 E1;obtain ⟨r0,r1,r2,r3,rf⟩:=box4 L1;clear Z1 E1 L1 R1;go_wp2;obtain ⟨wz,hwz,EZ,BZ⟩:=HU.out;rw[<-hwz];obtain ⟨v0,v1,v2,v3,-⟩:=box4 EZ;rw[HB.out] at BZ;exact bodyPost_ret (v:=exN U aU cU) (by simp[results,Tryz.results114,go_sem,v0,v1,v2,v3,exN]) rfl ⟨aU,cU,by rw[hans],by rw[hans];exact SU,BZ⟩
   ·have hans:qnE e x y=e:=by unfold qnE;rw[if_neg (by rintro (h|h);exact h0 h.2;rw[h5] at h;exact absurd h.1 (by decide))]
    have k0:((x.kids.len:Int)==0)=false:=by rw[beq_eq_false_iff_ne];omega
    clear h5 h0;have HU:=hU4 (.int .i64 e.k) (.int .i64 e.n) (stv e.nm) (.slice (some ⟨b,0,none⟩) 2 cap) Z1 B1;obtain ⟨q0,q1,q2,q3,qf⟩:=box4 Z1;obtain ⟨p0,p1,p2,p3,pf⟩:=box4 E1;obtain ⟨r0,r1,r2,r3,rf⟩:=box4 L1;clear Z1 E1 L1 R1;go_wp2;obtain ⟨wz,hwz,EZ,BZ⟩:=HU.out;rw[<-hwz];obtain ⟨v0,v1,v2,v3,-⟩:=box4 EZ;rw[HB.out] at BZ;exact bodyPost_ret (v:=exN e (some ⟨b,0,none⟩) cap) (by simp[results,Tryz.results114,go_sem,v0,v1,v2,v3,exN,HL.out]) rfl ⟨(some ⟨b,0,none⟩),cap,by rw[hans],by rw[hans];exact S,BZ⟩
  ·have k5:(x.k==25)=false:=by simpa using h5
   by_cases h2:x.k=22
   ·have k2:(x.k==22)=true:=by simpa using h2
    have hc:=isidle_c e.n y a1 c1 w1;rw[exN_out] at hc;obtain ⟨p0,p1,p2,p3,pf⟩:=box4 E1;obtain ⟨r0,r1,r2,r3,rf⟩:=box4 L1;obtain ⟨s0,s1,s2,s3,sf⟩:=box4 R1;go_wp2_with fail;refine hc.mono ?_;rintro u w2 ⟨rfl,b2⟩;obtain ⟨B2,E1,L1,R1,Z1⟩:=bxs B1 b2 E1 L1 R1 Z1;clear hc b2 p0 p1 p2 p3 pf r0 r1 r2 r3 rf s0 s1 s2 s3 sf B1;cases h3:idE e.n y with
    | true =>
     have hans:qnE e x y=unE e:=by unfold qnE;rw[if_pos (.inr ⟨h2,h3⟩)]
     clear h5 h2;have hc:=unmoved_c e (some ⟨b,0,none⟩) cap P w w2 S;rw[exN_out,HL.out] at hc;obtain ⟨p0,p1,p2,p3,pf⟩:=box4 E1;obtain ⟨r0,r1,r2,r3,rf⟩:=box4 L1;obtain ⟨s0,s1,s2,s3,sf⟩:=box4 R1;go_wp2_with fail;refine hc.mono ?_;rintro u w3 ⟨aU,cU,rfl,SU,b3⟩;obtain ⟨B3,E1,L1,R1,Z1⟩:=bxs B2 b3 E1 L1 R1 Z1;clear hc b3 p0 p1 p2 p3 pf r0 r1 r2 r3 rf s0 s1 s2 s3 sf B2;rw[exN_out];generalize unE e=U at *;have HU:=hU4 (.int .i64 U.k) (.int .i64 U.n) (stv U.nm) (.slice aU U.kids.len cU) Z1 B3;obtain ⟨q0,q1,q2,q3,qf⟩:=box4 Z1;obtain ⟨p0,p1,p2,p3,pf⟩:=box4 E1;obtain ⟨r0,r1,r2,r3,rf⟩:=box4 L1;clear Z1 E1 L1 R1;go_wp2;obtain ⟨wz,hwz,EZ,BZ⟩:=HU.out;rw[<-hwz];obtain ⟨v0,v1,v2,v3,-⟩:=box4 EZ;rw[HB.out] at BZ;exact bodyPost_ret (v:=exN U aU cU) (by simp[results,Tryz.results114,go_sem,v0,v1,v2,v3,exN]) rfl ⟨aU,cU,by rw[hans],by rw[hans];exact SU,BZ⟩
    | false =>
     have hans:qnE e x y=e:=by unfold qnE;rw[if_neg (by rintro (h|h);exact h5 h.1;rw[h3] at h;exact absurd h.2 (by decide))]
     clear h5 h2;have HU:=hU4 (.int .i64 e.k) (.int .i64 e.n) (stv e.nm) (.slice (some ⟨b,0,none⟩) 2 cap) Z1 B2;obtain ⟨q0,q1,q2,q3,qf⟩:=box4 Z1;obtain ⟨p0,p1,p2,p3,pf⟩:=box4 E1;obtain ⟨r0,r1,r2,r3,rf⟩:=box4 L1;clear Z1 E1 L1 R1;go_wp2;obtain ⟨wz,hwz,EZ,BZ⟩:=HU.out;rw[<-hwz];obtain ⟨v0,v1,v2,v3,-⟩:=box4 EZ;rw[HB.out] at BZ;exact bodyPost_ret (v:=exN e (some ⟨b,0,none⟩) cap) (by simp[results,Tryz.results114,go_sem,v0,v1,v2,v3,exN,HL.out]) rfl ⟨(some ⟨b,0,none⟩),cap,by rw[hans],by rw[hans];exact S,BZ⟩
   ·have k2:(x.k==22)=false:=by simpa using h2
    have hans:qnE e x y=e:=by unfold qnE;rw[if_neg (by rintro (h|h);exact h5 h.1;exact h2 h.1)]
    clear h5 h2;have HU:=hU4 (.int .i64 e.k) (.int .i64 e.n) (stv e.nm) (.slice (some ⟨b,0,none⟩) 2 cap) Z1 B1;obtain ⟨q0,q1,q2,q3,qf⟩:=box4 Z1;obtain ⟨p0,p1,p2,p3,pf⟩:=box4 E1;obtain ⟨r0,r1,r2,r3,rf⟩:=box4 L1;clear Z1 E1 L1 R1;go_wp2;obtain ⟨wz,hwz,EZ,BZ⟩:=HU.out;rw[<-hwz];obtain ⟨v0,v1,v2,v3,-⟩:=box4 EZ;rw[HB.out] at BZ;exact bodyPost_ret (v:=exN e (some ⟨b,0,none⟩) cap) (by simp[results,Tryz.results114,go_sem,v0,v1,v2,v3,exN,HL.out]) rfl ⟨(some ⟨b,0,none⟩),cap,by rw[hans],by rw[hans];exact S,BZ⟩)
end Go.Proofs.YtaihhnlfcndecaaGreatDoor
