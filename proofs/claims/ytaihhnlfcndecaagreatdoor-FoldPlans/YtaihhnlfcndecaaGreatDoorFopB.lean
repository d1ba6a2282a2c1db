import Derived.Test.YtaihhnlfcndecaaGreatDoorFolT
import Derived.Deep.CutBlock
import Derived.Deep.DeepCutAuto
set_option maxRecDepth 100000
set_option maxHeartbeats 8000000
namespace Go.Proofs.YtaihhnlfcndecaaGreatDoor
open Go.ChangeShapes Go.WideShapes Go.ChangeAt Go.RowKit
set_option linter.unusedVariables false
set_option linter.unusedSimpArgs false
theorem rule_hu {bx:Nat}{w v:World}(y:Ex)(ao:Option Addr)(cap:Nat)(Z:v.heap[bx+1]?=some (.cells #[.int .i64 0,.int .i64 0,.string ⟨#[]⟩,.slice none 0 0] 34 (0,0)))(B:Below bx w v) :
  Hid (∃wz,wz=(((v.setCell ⟨bx+1,0,none⟩ (.int .i64 y.k)).setCell ⟨bx+1,1,none⟩ (.int .i64 y.n)).setCell ⟨bx+1,2,none⟩ (stv y.nm)).setCell ⟨bx+1,3,none⟩ (.slice ao y.kids.len cap)/\wz.cell? ⟨bx+1,0,none⟩=some (.int .i64 y.k)/\wz.cell? ⟨bx+1,1,none⟩=some (.int .i64 y.n)/\wz.cell? ⟨bx+1,2,none⟩=some (stv y.nm)/\wz.cell? ⟨bx+1,3,none⟩=some (.slice ao y.kids.len cap)/\Below bx w wz):=by
 obtain ⟨u0,u1,u2,u3,-⟩:=box4 (set4k (b0:=.int .i64 y.k) (b1:=.int .i64 y.n) (b2:=stv y.nm) (b3:=.slice ao y.kids.len cap) Z);exact ⟨_,rfl,u0,u1,u2,u3,(((B.setCell (p:=⟨bx+1,0,none⟩) (Nat.le_succ _) _).setCell (p:=⟨bx+1,1,none⟩) (Nat.le_succ _) _).setCell (p:=⟨bx+1,2,none⟩) (Nat.le_succ _) _).setCell (p:=⟨bx+1,3,none⟩) (Nat.le_succ _) _⟩
theorem rule_hc {bx:Nat}{w u:World}(k v:Int)(Z:u.heap[bx+1]?=some (.cells #[.int .i64 0,.int .i64 0,.string ⟨#[]⟩,.slice none 0 0] 34 (0,0)))(B:Below bx w u) :
  Hid (∃wz,wz=(((u.setCell ⟨bx+1,0,none⟩ (.int .i64 k)).setCell ⟨bx+1,1,none⟩ (.int .i64 v)).setCell ⟨bx+1,2,none⟩ (.string ⟨#[]⟩)).setCell ⟨bx+1,3,none⟩ (.slice none 0 0)/\wz.cell? ⟨bx+1,0,none⟩=some (.int .i64 k)/\wz.cell? ⟨bx+1,1,none⟩=some (.int .i64 v)/\wz.cell? ⟨bx+1,2,none⟩=some (.string ⟨#[]⟩)/\wz.cell? ⟨bx+1,3,none⟩=some (.slice none 0 0)/\Below bx w wz):=rule_hu ⟨k,v,[],0,.nil⟩ none 0 Z B
theorem SlcN.kidM {P:Nat->Prop}{w:World}{d r:Fs}{y:Ex}{ao:Option Addr}{cap:Nat}(h:SlcN w P (d.app (Fs.ex y r)) ao cap):∃b a c,ao=some ⟨b,0,none⟩/\b<w.heap.size/\w.cell? ⟨b,d.len*4,none⟩=some (.int .i64 y.k)/\w.cell? ⟨b,d.len*4+1,none⟩=some (.int .i64 y.n)/\w.cell? ⟨b,d.len*4+2,none⟩=some (stv y.nm)/\w.cell? ⟨b,d.len*4+3,none⟩=some (.slice a y.kids.len c)/\SlcN w P y.kids a c:=by
 obtain ⟨b,a,c,h1,h2,h3,h4,h5,h6,h7⟩:=SlcN.kidC (x:=d) h;exact ⟨b,a,c,h1,h2,h3,h4,h5,h6,h7⟩
theorem opE_rest {e x y:Ex}(h:(if cnE x&&cnE y then rckP e.k x.n y.n else none)=none):opE e x y=if e.k=7 then (if x.k=7 then x.kids.head else e) else if e.k=8/\isE x 1 0=true then y else if (e.k=8\/e.k=9)/\isE y 1 0=true then x else if e.k=10/\isE x 1 1=true then y else if (e.k=10\/e.k=11)/\isE y 1 1=true then x else e:=by
 unfold opE;rw[h]
theorem opE_some {e x y:Ex}{v:Int}(h:(if cnE x&&cnE y then rckP e.k x.n y.n else none)=some v):opE e x y=⟨ckE e.k,v,[],0,.nil⟩:=by
 unfold opE;rw[h]
theorem operation_c (e x y:Ex)(ao:Option Addr)(cap:Nat)(P:Nat->Prop)(w:World)(hke:6<=e.k/\e.k<=16)(hk:(e.kids=Fs.ex x .nil/\y=x)\/e.kids=Fs.ex x (Fs.ex y .nil))(h77:e.k=7->x.k=7->∃z,x.kids=Fs.ex z .nil)(hxn:cnE x=true->In64 x.n)(hyn:cnE y=true->In64 y.n)(S:SlcN w P e.kids ao cap) :
  Calls Tryz.prog 111 #[exN e ao cap] w (PostRu w w P (opE e x y)):=by
 obtain ⟨b,a0,c0,hao,hb,x0,x1,x2,x3,SX⟩:∃b a c,ao=some ⟨b,0,none⟩/\b<w.heap.size/\w.cell? ⟨b,0*4,none⟩=some (.int .i64 x.k)/\w.cell? ⟨b,0*4+1,none⟩=some (.int .i64 x.n)/\w.cell? ⟨b,0*4+2,none⟩=some (stv x.nm)/\w.cell? ⟨b,0*4+3,none⟩=some (.slice a x.kids.len c)/\SlcN w P x.kids a c:=by
  rcases hk with ⟨h,-⟩|h
  ·exact SlcN.kidM (d:=.nil) (y:=x) (by have S2:=S;rw[h] at S2;exact S2)
  ·exact SlcN.kidM (d:=.nil) (y:=x) (by have S2:=S;rw[h] at S2;exact S2)
 obtain ⟨m,a1,c1,hml,hwl,y0,y1,y2,y3,SY⟩:∃(m:Nat) (a:Option Addr) (c:Nat),(m:Int)<(e.kids.len:Int)/\IntKind.i64.wrap ((e.kids.len:Int) - 1)=(m:Int)/\w.cell? ⟨b,m*4,none⟩=some (.int .i64 y.k)/\w.cell? ⟨b,m*4+1,none⟩=some (.int .i64 y.n)/\w.cell? ⟨b,m*4+2,none⟩=some (stv y.nm)/\w.cell? ⟨b,m*4+3,none⟩=some (.slice a y.kids.len c)/\SlcN w P y.kids a c:=by
  rcases hk with ⟨h,hyx⟩|h
  ·refine ⟨0,a0,c0,by rw[h];show (0:Int)<((1:Nat):Int);decide,by rw[h];show IntKind.i64.wrap (((1:Nat):Int) - 1)=0;decide,?_⟩
   rw[hyx];exact ⟨x0,x1,x2,x3,SX⟩
  ·obtain ⟨b',a,c,h1,-,h3,h4,h5,h6,h7⟩:=SlcN.kidM (d:=Fs.ex x .nil) (y:=y) (r:=.nil) (by have S2:=S;rw[h] at S2;exact S2)
   rw[hao] at h1;injection h1 with h1
   injection h1 with h1
   subst h1;exact ⟨1,a,c,by rw[h];show (1:Int)<((2:Nat):Int);decide,by rw[h];show IntKind.i64.wrap (((2:Nat):Int) - 1)=1;decide,h3,h4,h5,h6,h7⟩
 subst hao;have hl0:(0:Int)<(e.kids.len:Int):=by omega
 obtain ⟨w0,hw0⟩:∃w0,w0=(w.alloc (.cells #[.int .i64 e.k,.int .i64 e.n,stv e.nm,.slice (some ⟨b,0,none⟩) e.kids.len cap] 34)).alloc (.cells #[.int .i64 0,.int .i64 0,.string ⟨#[]⟩,.slice none 0 0] 34):=⟨_,rfl⟩;have B0:Below w.heap.size w w0:=by rw[hw0];exact ((Below.refl _ w).alloc (Nat.le_refl _) _).alloc (by simp) _
 have E0:w0.heap[w.heap.size]?=some (.cells #[.int .i64 e.k,.int .i64 e.n,stv e.nm,.slice (some ⟨b,0,none⟩) e.kids.len cap] 34 (0,0)):=by rw[hw0];exact (Below.heap_alloc _ _ _ (by simp)).trans (heap_alloc_new w _)
 have Z0:w0.heap[w.heap.size+1]?=some (.cells #[.int .i64 0,.int .i64 0,.string ⟨#[]⟩,.slice none 0 0] 34 (0,0)):=by
  rw[hw0]
  have:=heap_alloc_new (w.alloc (.cells #[.int .i64 e.k,.int .i64 e.n,stv e.nm,.slice (some ⟨b,0,none⟩) e.kids.len cap] 34)) (.cells #[.int .i64 0,.int .i64 0,.string ⟨#[]⟩,.slice none 0 0] 34)
  simpa using this
 rw[exN_out];go_enter Tryz.func111,Tryz.ntmps111;go_upto_region 1 with fail;rw[<-hw0];obtain ⟨bx,hbx⟩:∃bx,bx=w.heap.size:=⟨_,rfl⟩;rw[<-hbx] at E0 Z0 B0 hb
 try rw[<-hbx]
 have HB:Hid (bx=w.heap.size):=hbx;clear hbx hw0;have x0:=(B0.cell (p:=⟨b,0*4,none⟩) hb).trans x0;have x1:=(B0.cell (p:=⟨b,0*4+1,none⟩) hb).trans x1;have x2:=(B0.cell (p:=⟨b,0*4+2,none⟩) hb).trans x2;have x3:=(B0.cell (p:=⟨b,0*4+3,none⟩) hb).trans x3;have y0:=(B0.cell (p:=⟨b,m*4,none⟩) hb).trans y0;have y1:=(B0.cell (p:=⟨b,m*4+1,none⟩) hb).trans y1;have y2:=(B0.cell (p:=⟨b,m*4+2,none⟩) hb).trans y2;have y3:=(B0.cell (p:=⟨b,m*4+3,none⟩) hb).trans y3;simp only[Nat.zero_mul,Nat.zero_add] at x0 x1 x2 x3;have hb0:b<w0.heap.size:=Nat.lt_trans hb (lt_of_block E0);obtain ⟨p0,p1,p2,p3,pf⟩:=box4 E0;have l1:bx<w0.heap.size:=lt_of_block E0;have l2:bx<w0.heap.size+1:=Nat.lt_succ_of_lt l1;have l3:b<w0.heap.size+1:=Nat.lt_succ_of_lt hb0;have hke2:Hid (6<=e.k/\e.k<=16):=hke;clear hk
 go_cut [3,4] (fun v3 v4 wx=>∃p q,v3=.pointer (some ⟨p,0,none⟩)/\v4=.pointer (some ⟨q,0,none⟩)/\wx.heap[p]?=some (.cells #[.int .i64 x.k,.int .i64 x.n,stv x.nm,.slice a0 x.kids.len c0] 34 (0,0))/\wx.heap[q]?=some (.cells #[.int .i64 y.k,.int .i64 y.n,stv y.nm,.slice a1 y.kids.len c1] 34 (0,0))/\wx.heap[bx]?=some (.cells #[.int .i64 e.k,.int .i64 e.n,stv e.nm,.slice (some ⟨b,0,none⟩) e.kids.len cap] 34 (0,0))/\wx.heap[bx+1]?=some (.cells #[.int .i64 0,.int .i64 0,.string ⟨#[]⟩,.slice none 0 0] 34 (0,0))/\Below bx w wx)
 case first =>
  go_region
  all_goals (
   first
    | (
     obtain ⟨w1,hw1⟩:∃w1,w1=((w0.alloc (.cells #[.int .i64 x.k,.int .i64 x.n,.string ⟨x.nm.toArray⟩,.slice a0 x.kids.len c0] 34)).alloc (.cells #[.int .i64 y.k,.int .i64 y.n,.string ⟨y.nm.toArray⟩,.slice a1 y.kids.len c1] 34)).drew:=⟨_,rfl⟩;obtain ⟨p,hp⟩:∃p,p=w0.heap.size:=⟨_,rfl⟩;obtain ⟨q,hq⟩:∃q,q=w0.heap.size+1:=⟨_,rfl⟩;have B1:Below bx w w1:=by rw[hw1];exact ((B0.alloc (Nat.le_of_lt l1) _).alloc (by simp;omega) _).drew
     have D1:Below w0.heap.size w0 w1:=by rw[hw1];exact (((Below.refl _ w0).alloc (Nat.le_refl _) _).alloc (by simp) _).drew
     have N1:w1.heap[w0.heap.size]?=some (.cells #[.int .i64 x.k,.int .i64 x.n,stv x.nm,.slice a0 x.kids.len c0] 34 (0,0)):=by
      rw[hw1];exact (Below.heap_alloc _ _ _ (by simp)).trans (heap_alloc_new w0 _)
     have N2:w1.heap[w0.heap.size+1]?=some (.cells #[.int .i64 y.k,.int .i64 y.n,stv y.nm,.slice a1 y.kids.len c1] 34 (0,0)):=by
      rw[hw1]
      have:=heap_alloc_new (w0.alloc (.cells #[.int .i64 x.k,.int .i64 x.n,.string ⟨x.nm.toArray⟩,.slice a0 x.kids.len c0] 34)) (.cells #[.int .i64 y.k,.int .i64 y.n,.string ⟨y.nm.toArray⟩,.slice a1 y.kids.len c1] 34)
      rw[show (w0.alloc (.cells #[.int .i64 x.k,.int .i64 x.n,.string ⟨x.nm.toArray⟩,.slice a0 x.kids.len c0] 34)).heap.size=w0.heap.size+1 by simp] at this
      exact this
     have E1:=(D1.block bx l1).trans E0;have Z1:=(D1.block (bx+1) (lt_of_block Z0)).trans Z0;have L1:w1.heap[p]?=some (.cells #[.int .i64 x.k,.int .i64 x.n,stv x.nm,.slice a0 x.kids.len c0] 34 (0,0)):=by rw[hp];exact N1
     have R1:w1.heap[q]?=some (.cells #[.int .i64 y.k,.int .i64 y.n,stv y.nm,.slice a1 y.kids.len c1] 34 (0,0)):=by rw[hq];exact N2
     rw[<-hw1,<-hq,<-hp];clear hw1 hp hq D1 B0 E0 Z0 l1 l2 l3 hb0 hb p0 p1 p2 p3 pf x0 x1 x2 x3 y0 y1 y2 y3 N1 N2 hwl hml)
    | (
     obtain ⟨w1,hw1⟩:∃w1,w1=((w0.alloc (.cells #[.int .i64 y.k,.int .i64 y.n,.string ⟨y.nm.toArray⟩,.slice a1 y.kids.len c1] 34)).alloc (.cells #[.int .i64 x.k,.int .i64 x.n,.string ⟨x.nm.toArray⟩,.slice a0 x.kids.len c0] 34)).drew:=⟨_,rfl⟩;obtain ⟨p,hp⟩:∃p,p=w0.heap.size+1:=⟨_,rfl⟩;obtain ⟨q,hq⟩:∃q,q=w0.heap.size:=⟨_,rfl⟩;have B1:Below bx w w1:=by rw[hw1];exact ((B0.alloc (Nat.le_of_lt l1) _).alloc (by simp;omega) _).drew
     have D1:Below w0.heap.size w0 w1:=by rw[hw1];exact (((Below.refl _ w0).alloc (Nat.le_refl _) _).alloc (by simp) _).drew
     have N1:w1.heap[w0.heap.size]?=some (.cells #[.int .i64 y.k,.int .i64 y.n,stv y.nm,.slice a1 y.kids.len c1] 34 (0,0)):=by
      rw[hw1];exact (Below.heap_alloc _ _ _ (by simp)).trans (heap_alloc_new w0 _)
     have N2:w1.heap[w0.heap.size+1]?=some (.cells #[.int .i64 x.k,.int .i64 x.n,stv x.nm,.slice a0 x.kids.len c0] 34 (0,0)):=by
      rw[hw1]
      have:=heap_alloc_new (w0.alloc (.cells #[.int .i64 y.k,.int .i64 y.n,.string ⟨y.nm.toArray⟩,.slice a1 y.kids.len c1] 34)) (.cells #[.int .i64 x.k,.int .i64 x.n,.string ⟨x.nm.toArray⟩,.slice a0 x.kids.len c0] 34)
      rw[show (w0.alloc (.cells #[.int .i64 y.k,.int .i64 y.n,.string ⟨y.nm.toArray⟩,.slice a1 y.kids.len c1] 34)).heap.size=w0.heap.size+1 by simp] at this
      exact this
     have E1:=(D1.block bx l1).trans E0;have Z1:=(D1.block (bx+1) (lt_of_block Z0)).trans Z0;have L1:w1.heap[p]?=some (.cells #[.int .i64 x.k,.int .i64 x.n,stv x.nm,.slice a0 x.kids.len c0] 34 (0,0)):=by rw[hp];exact N2
     have R1:w1.heap[q]?=some (.cells #[.int .i64 y.k,.int .i64 y.n,stv y.nm,.slice a1 y.kids.len c1] 34 (0,0)):=by rw[hq];exact N1
     rw[<-hw1,<-hp,<-hq];clear hw1 hp hq D1 B0 E0 Z0 l1 l2 l3 hb0 hb p0 p1 p2 p3 pf x0 x1 x2 x3 y0 y1 y2 y3 N1 N2 hwl hml)
   go_wp2;go_meet;exact ⟨p,q,rfl,rfl,L1,R1,E1,Z1,B1⟩)
 case rest =>
 obtain ⟨p,q,rfl,rfl,L1,R1,E1,Z1,B1⟩:=hcut;clear B0 E0 Z0 l1 l2 l3 hb0 hb p0 p1 p2 p3 pf x0 x1 x2 x3 y0 y1 y2 y3 hwl hml;generalize wc=w1 at *;go_upto_region 2 with fail
 go_cut [24] (fun v wx=>v=.bool (cnE x&&cnE y)/\wx.heap[p]?=some (.cells #[.int .i64 x.k,.int .i64 x.n,stv x.nm,.slice a0 x.kids.len c0] 34 (0,0))/\wx.heap[q]?=some (.cells #[.int .i64 y.k,.int .i64 y.n,stv y.nm,.slice a1 y.kids.len c1] 34 (0,0))/\wx.heap[bx]?=some (.cells #[.int .i64 e.k,.int .i64 e.n,stv e.nm,.slice (some ⟨b,0,none⟩) e.kids.len cap] 34 (0,0))/\wx.heap[bx+1]?=some (.cells #[.int .i64 0,.int .i64 0,.string ⟨#[]⟩,.slice none 0 0] 34 (0,0))/\Below bx w wx)
 case first =>
  have hph:cnE x=false\/(cnE x=true/\∃cy,cnE y=cy):=by
   cases h1:cnE x with
   | false=>exact .inl rfl
   | true=>exact .inr ⟨rfl,_,rfl⟩
  rcases hph with hcx|⟨hcx,cy,hcy⟩
  focus
   have hc:=iscon_c x a0 c0 w1
   try rw[exN_out] at hc
   obtain ⟨p0,p1,p2,p3,pf⟩:=box4 E1;obtain ⟨r0,r1,r2,r3,rf⟩:=box4 L1;obtain ⟨s0,s1,s2,s3,sf⟩:=box4 R1;go_wp2_with fail;refine hc.mono ?_;rintro u w2 ⟨rfl,b2⟩;obtain ⟨B2,E1,L1,R1,Z1⟩:=bxs B1 b2 E1 L1 R1 Z1;clear hc b2 p0 p1 p2 p3 pf r0 r1 r2 r3 rf s0 s1 s2 s3 sf B1;rw[hcx];go_wp2;go_meet;exact ⟨by rw[hcx];rfl,L1,R1,E1,Z1,B2⟩
  focus
   have hc:=iscon_c x a0 c0 w1
   try rw[exN_out] at hc
   obtain ⟨p0,p1,p2,p3,pf⟩:=box4 E1;obtain ⟨r0,r1,r2,r3,rf⟩:=box4 L1;obtain ⟨s0,s1,s2,s3,sf⟩:=box4 R1;go_wp2_with fail;refine hc.mono ?_;rintro u w2 ⟨rfl,b2⟩;obtain ⟨B2,E1,L1,R1,Z1⟩:=bxs B1 b2 E1 L1 R1 Z1;clear hc b2 p0 p1 p2 p3 pf r0 r1 r2 r3 rf s0 s1 s2 s3 sf B1;rw[hcx];have hc:=iscon_c y a1 c1 w2
   try rw[exN_out] at hc
   obtain ⟨p0,p1,p2,p3,pf⟩:=box4 E1;obtain ⟨r0,r1,r2,r3,rf⟩:=box4 L1;obtain ⟨s0,s1,s2,s3,sf⟩:=box4 R1;go_wp2_with fail;refine hc.mono ?_;rintro u w3 ⟨rfl,b3⟩;obtain ⟨B3,E1,L1,R1,Z1⟩:=bxs B2 b3 E1 L1 R1 Z1;clear hc b3 p0 p1 p2 p3 pf r0 r1 r2 r3 rf s0 s1 s2 s3 sf B2;rw[hcy];go_wp2;go_meet;exact ⟨by rw[hcx,hcy];rfl,L1,R1,E1,Z1,B3⟩
 case rest =>
 obtain ⟨rfl,L2,R2,E2,Z2,B2⟩:=hcut;clear L1 R1 E1 Z1 B1;generalize wc=w3 at *;have L1:=L2;have R1:=R2;have E1:=E2;have Z1:=Z2;have B3:=B2;clear L2 R2 E2 Z2 B2;obtain ⟨cc,hcc⟩:∃cc,cc=(cnE x&&cnE y):=⟨_,rfl⟩;rw[<-hcc];have HC:Hid (cc=(cnE x&&cnE y)):=hcc;clear hcc
 go_upto_if 24 with fail
 go_cut [] (fun wx=>opE e x y=(if e.k=7 then (if x.k=7 then x.kids.head else e) else if e.k=8/\isE x 1 0=true then y else if (e.k=8\/e.k=9)/\isE y 1 0=true then x else if e.k=10/\isE x 1 1=true then y else if (e.k=10\/e.k=11)/\isE y 1 1=true then x else e)/\wx.heap[p]?=some (.cells #[.int .i64 x.k,.int .i64 x.n,stv x.nm,.slice a0 x.kids.len c0] 34 (0,0))/\wx.heap[q]?=some (.cells #[.int .i64 y.k,.int .i64 y.n,stv y.nm,.slice a1 y.kids.len c1] 34 (0,0))/\wx.heap[bx]?=some (.cells #[.int .i64 e.k,.int .i64 e.n,stv e.nm,.slice (some ⟨b,0,none⟩) e.kids.len cap] 34 (0,0))/\wx.heap[bx+1]?=some (.cells #[.int .i64 0,.int .i64 0,.string ⟨#[]⟩,.slice none 0 0] 34 (0,0))/\Below bx w wx)
 case first =>
  have hph:cc=false\/(cc=true/\rckP e.k x.n y.n=none)\/(cc=true/\∃v,rckP e.k x.n y.n=some v):=by
   cases cc with
   | false=>exact .inl rfl
   | true =>
    cases h3:rckP e.k x.n y.n with
    | none=>exact .inr (.inl ⟨rfl,rfl⟩)
    | some v=>exact .inr (.inr ⟨rfl,v,rfl⟩)
  rcases hph with hcx|⟨hcx,hr⟩|⟨hcx,v,hr⟩
  focus
   have HN:Hid (opE e x y=_):=opE_rest (by rw[<-HC.out,hcx];rfl)
   subst hcx;go_wp2;go_meet;exact ⟨HN.out,L1,R1,E1,Z1,B3⟩
  focus
   have HN:Hid (opE e x y=_):=opE_rest (by rw[<-HC.out,hcx];exact hr)
   have hcb:cnE x=true/\cnE y=true:=(Bool.and_eq_true _ _).mp (HC.out.symm.trans hcx);subst hcx;have hc:=worth_c hke (hxn hcb.1) (hyn hcb.2) w3;have hwr:∃f:Int,wrV e.k x.n y.n=.tuple #[.int .i64 0,.int .i64 f]/\(f==0)=false:=by
    unfold wrV fltP;rw[hr];simp only
    split
    ·exact ⟨4,rfl,rfl⟩
    ·exact ⟨1,rfl,rfl⟩
   obtain ⟨f,hwr,hf0⟩:=hwr;rw[hwr] at hc;obtain ⟨p0,p1,p2,p3,pf⟩:=box4 E1;obtain ⟨r0,r1,r2,r3,rf⟩:=box4 L1;obtain ⟨s0,s1,s2,s3,sf⟩:=box4 R1;go_wp2_with fail;refine hc.mono ?_;rintro u w4 ⟨rfl,rfl⟩;clear hc hwr hr hcb p0 p1 p2 p3 pf r0 r1 r2 r3 rf s0 s1 s2 s3 sf;go_wp2;go_meet;exact ⟨HN.out,L1,R1,E1,Z1,B3⟩
  focus
   have hans:Hid (opE e x y=⟨ckE e.k,v,[],0,.nil⟩):=opE_some (by rw[<-HC.out,hcx];exact hr)
   have hcb:cnE x=true/\cnE y=true:=(Bool.and_eq_true _ _).mp (HC.out.symm.trans hcx);subst hcx;have hc:=worth_c hke (hxn hcb.1) (hyn hcb.2) w3;have hwr:wrV e.k x.n y.n=.tuple #[.int .i64 v,.int .i64 0]:=tr_wr hr;rw[hwr] at hc;have hc2:=conkind_c hke w3;obtain ⟨p0,p1,p2,p3,pf⟩:=box4 E1;obtain ⟨r0,r1,r2,r3,rf⟩:=box4 L1;obtain ⟨s0,s1,s2,s3,sf⟩:=box4 R1;go_wp2_with fail;refine hc.mono ?_;rintro u w4 ⟨rfl,rfl⟩;clear hc hwr hr hcb;go_wp2_with fail;refine hc2.mono ?_;rintro u w4 ⟨rfl,rfl⟩;clear hc2;have HU:=rule_hc (ckE e.k) v Z1 B3;obtain ⟨z0,z1,z2,z3,zf⟩:=box4 Z1;generalize ckE e.k=ck at *;clear Z1 E1 L1 R1;go_wp2;obtain ⟨wz,hwz,v0,v1,v2,v3,BZ⟩:=HU.out;rw[<-hwz];rw[HB.out] at BZ;exact bodyPost_ret (v:=.agg #[.int .i64 ck,.int .i64 v,.string ⟨#[]⟩,.slice none 0 0]) (by simp[results,Tryz.results111,go_sem,v0,v1,v2,v3]) rfl ⟨none,0,by rw[hans.out];rfl,by rw[hans.out];exact SlcN.nil _ _,BZ⟩
 case rest =>
 obtain ⟨hN,L2,R2,E2,Z2,B2⟩:=hcut;have HN:Hid (opE e x y=_):=hN;clear L1 R1 E1 Z1 B3 hN;generalize wc=w3 at *;have L1:=L2;have R1:=R2;have E1:=E2;have Z1:=Z2;have B3:=B2;clear L2 R2 E2 Z2 B2;have hkk:e.k=7\/e.k=8\/e.k=9\/e.k=10\/e.k=11\/(e.k≠7/\e.k≠8/\e.k≠9/\e.k≠10/\e.k≠11):=by omega
 clear hke;rcases hkk with k7|k8|k9|k10|k11|kno
 focus
  have t7:(e.k==7)=true:=by simpa using k7
  by_cases hx7:x.k=7
  ·have tx:(x.k==7)=true:=by simpa using hx7
   obtain ⟨z,hz⟩:=h77 k7 hx7;have hans:Hid (opE e x y=z):=by show _=_;rw[HN.out,if_pos k7,if_pos hx7,hz];rfl
   have SXx:=SX;rw[hz] at SXx;obtain ⟨bz,az,cz,hz1,hbz,g0,g1,g2,g3,SZ⟩:=SlcN.kidM (d:=.nil) SXx;subst hz1;have hlx:(0:Int)<(x.kids.len:Int):=by rw[hz];show (0:Int)<((1:Nat):Int);decide
   have WB:Below w.heap.size w w3:=by rw[<-HB.out];exact B3
   have g0:=(WB.cell (p:=⟨bz,0,none⟩) hbz).trans g0;have g1:=(WB.cell (p:=⟨bz,1,none⟩) hbz).trans g1;have g2:=(WB.cell (p:=⟨bz,2,none⟩) hbz).trans g2;have g3:=(WB.cell (p:=⟨bz,3,none⟩) hbz).trans g3;clear k7 hx7 hz SXx;have HU:=rule_hu z az cz Z1 B3;obtain ⟨p0,p1,p2,p3,pf⟩:=box4 E1;obtain ⟨r0,r1,r2,r3,rf⟩:=box4 L1;obtain ⟨s0,s1,s2,s3,sf⟩:=box4 R1;obtain ⟨z0,z1,z2,z3,zf⟩:=box4 Z1;clear Z1 E1 L1 R1;go_wp2;obtain ⟨wz,hwz,v0,v1,v2,v3,BZ⟩:=HU.out;rw[<-hwz];rw[HB.out] at BZ;exact bodyPost_ret (v:=exN z az cz) (by simp[results,Tryz.results111,go_sem,v0,v1,v2,v3,exN]) rfl ⟨az,cz,by rw[hans.out],by rw[hans.out];exact SZ,BZ⟩
  ·have tx:(x.k==7)=false:=by simpa using hx7
   have hans:Hid (opE e x y=e):=by show _=_;rw[HN.out,if_pos k7,if_neg hx7]
   clear k7 hx7;have HU:=rule_hu e (some ⟨b,0,none⟩) cap Z1 B3;obtain ⟨p0,p1,p2,p3,pf⟩:=box4 E1;obtain ⟨r0,r1,r2,r3,rf⟩:=box4 L1;obtain ⟨s0,s1,s2,s3,sf⟩:=box4 R1;obtain ⟨z0,z1,z2,z3,zf⟩:=box4 Z1;clear Z1 E1 L1 R1;go_wp2;obtain ⟨wz,hwz,v0,v1,v2,v3,BZ⟩:=HU.out;rw[<-hwz];rw[HB.out] at BZ;exact bodyPost_ret (v:=exN e (some ⟨b,0,none⟩) cap) (by simp[results,Tryz.results111,go_sem,v0,v1,v2,v3,exN]) rfl ⟨(some ⟨b,0,none⟩),cap,by rw[hans.out],by rw[hans.out];exact S,BZ⟩
 focus
  have t7:(e.k==7)=false:=by simp;omega
  have t8:(e.k==8)=true:=by simp;omega
  have hc:=isnum_c x a0 c0 0 w3
  try rw[exN_out] at hc
  obtain ⟨p0,p1,p2,p3,pf⟩:=box4 E1;obtain ⟨r0,r1,r2,r3,rf⟩:=box4 L1;obtain ⟨s0,s1,s2,s3,sf⟩:=box4 R1;go_wp2_with fail;refine hc.mono ?_;rintro u w4 ⟨rfl,b4⟩;obtain ⟨B4,E1,L1,R1,Z1⟩:=bxs B3 b4 E1 L1 R1 Z1;clear hc b4 p0 p1 p2 p3 pf r0 r1 r2 r3 rf s0 s1 s2 s3 sf B3;cases hx0:isE x 1 0 with
  | true =>
   have hans:Hid (opE e x y=y):=by show _=_;rw[HN.out];simp[k8,hx0]
   clear k8 hx0 HN;have HU:=rule_hu y a1 c1 Z1 B4;obtain ⟨p0,p1,p2,p3,pf⟩:=box4 E1;obtain ⟨r0,r1,r2,r3,rf⟩:=box4 L1;obtain ⟨s0,s1,s2,s3,sf⟩:=box4 R1;obtain ⟨z0,z1,z2,z3,zf⟩:=box4 Z1;clear Z1 E1 L1 R1;go_wp2;obtain ⟨wz,hwz,v0,v1,v2,v3,BZ⟩:=HU.out;rw[<-hwz];rw[HB.out] at BZ;exact bodyPost_ret (v:=exN y a1 c1) (by simp[results,Tryz.results111,go_sem,v0,v1,v2,v3,exN]) rfl ⟨a1,c1,by rw[hans.out],by rw[hans.out];exact SY,BZ⟩
  | false =>
   have hc:=isnum_c y a1 c1 0 w4
   try rw[exN_out] at hc
   obtain ⟨p0,p1,p2,p3,pf⟩:=box4 E1;obtain ⟨r0,r1,r2,r3,rf⟩:=box4 L1;obtain ⟨s0,s1,s2,s3,sf⟩:=box4 R1;go_wp2_with fail;refine hc.mono ?_;rintro u w5 ⟨rfl,b5⟩;obtain ⟨B5,E1,L1,R1,Z1⟩:=bxs B4 b5 E1 L1 R1 Z1;clear hc b5 p0 p1 p2 p3 pf r0 r1 r2 r3 rf s0 s1 s2 s3 sf B4;cases hy0:isE y 1 0 with
   | true =>
    have hans:Hid (opE e x y=x):=by show _=_;rw[HN.out];simp[k8,hx0,hy0]
    clear k8 hx0 hy0 HN;have HU:=rule_hu x a0 c0 Z1 B5;obtain ⟨p0,p1,p2,p3,pf⟩:=box4 E1;obtain ⟨r0,r1,r2,r3,rf⟩:=box4 L1;obtain ⟨s0,s1,s2,s3,sf⟩:=box4 R1;obtain ⟨z0,z1,z2,z3,zf⟩:=box4 Z1;clear Z1 E1 L1 R1;go_wp2;obtain ⟨wz,hwz,v0,v1,v2,v3,BZ⟩:=HU.out;rw[<-hwz];rw[HB.out] at BZ;exact bodyPost_ret (v:=exN x a0 c0) (by simp[results,Tryz.results111,go_sem,v0,v1,v2,v3,exN]) rfl ⟨a0,c0,by rw[hans.out],by rw[hans.out];exact SX,BZ⟩
   | false =>
    have hans:Hid (opE e x y=e):=by show _=_;rw[HN.out];simp[k8,hx0,hy0]
    clear k8 hx0 hy0 HN;have HU:=rule_hu e (some ⟨b,0,none⟩) cap Z1 B5;obtain ⟨p0,p1,p2,p3,pf⟩:=box4 E1;obtain ⟨r0,r1,r2,r3,rf⟩:=box4 L1;obtain ⟨s0,s1,s2,s3,sf⟩:=box4 R1;obtain ⟨z0,z1,z2,z3,zf⟩:=box4 Z1;clear Z1 E1 L1 R1;go_wp2;obtain ⟨wz,hwz,v0,v1,v2,v3,BZ⟩:=HU.out;rw[<-hwz];rw[HB.out] at BZ;exact bodyPost_ret (v:=exN e (some ⟨b,0,none⟩) cap) (by simp[results,Tryz.results111,go_sem,v0,v1,v2,v3,exN]) rfl ⟨(some ⟨b,0,none⟩),cap,by rw[hans.out],by rw[hans.out];exact S,BZ⟩
 focus
  have t7:(e.k==7)=false:=by simp;omega
  have t8:(e.k==8)=false:=by simp;omega
  have t9:(e.k==9)=true:=by simp;omega
  have hc:=isnum_c y a1 c1 0 w3
  try rw[exN_out] at hc
  obtain ⟨p0,p1,p2,p3,pf⟩:=box4 E1;obtain ⟨r0,r1,r2,r3,rf⟩:=box4 L1;obtain ⟨s0,s1,s2,s3,sf⟩:=box4 R1;go_wp2_with fail;refine hc.mono ?_;rintro u w4 ⟨rfl,b4⟩;obtain ⟨B4,E1,L1,R1,Z1⟩:=bxs B3 b4 E1 L1 R1 Z1;clear hc b4 p0 p1 p2 p3 pf r0 r1 r2 r3 rf s0 s1 s2 s3 sf B3;cases hy0:isE y 1 0 with
  | true =>
   have hans:Hid (opE e x y=x):=by show _=_;rw[HN.out];simp[k9,hy0]
   clear k9 hy0 HN;have HU:=rule_hu x a0 c0 Z1 B4;obtain ⟨p0,p1,p2,p3,pf⟩:=box4 E1;obtain ⟨r0,r1,r2,r3,rf⟩:=box4 L1;obtain ⟨s0,s1,s2,s3,sf⟩:=box4 R1;obtain ⟨z0,z1,z2,z3,zf⟩:=box4 Z1;clear Z1 E1 L1 R1;go_wp2;obtain ⟨wz,hwz,v0,v1,v2,v3,BZ⟩:=HU.out;rw[<-hwz];rw[HB.out] at BZ;exact bodyPost_ret (v:=exN x a0 c0) (by simp[results,Tryz.results111,go_sem,v0,v1,v2,v3,exN]) rfl ⟨a0,c0,by rw[hans.out],by rw[hans.out];exact SX,BZ⟩
  | false =>
   have hans:Hid (opE e x y=e):=by show _=_;rw[HN.out];simp[k9,hy0]
   clear k9 hy0 HN;have HU:=rule_hu e (some ⟨b,0,none⟩) cap Z1 B4;obtain ⟨p0,p1,p2,p3,pf⟩:=box4 E1;obtain ⟨r0,r1,r2,r3,rf⟩:=box4 L1;obtain ⟨s0,s1,s2,s3,sf⟩:=box4 R1;obtain ⟨z0,z1,z2,z3,zf⟩:=box4 Z1;clear Z1 E1 L1 R1;go_wp2;obtain ⟨wz,hwz,v0,v1,v2,v3,BZ⟩:=HU.out;rw[<-hwz];rw[HB.out] at BZ;exact bodyPost_ret (v:=exN e (some ⟨b,0,none⟩) cap) (by simp[results,Tryz.results111,go_sem,v0,v1,v2,v3,exN]) rfl ⟨(some ⟨b,0,none⟩),cap,by rw[hans.out],by rw[hans.out];exact S,BZ⟩
 focus
  have t7:(e.k==7)=false:=by simp;omega
  have t8:(e.k==8)=false:=by simp;omega
  have t9:(e.k==9)=false:=by simp;omega
  have t10:(e.k==10)=true:=by simp;omega
  have hc:=isnum_c x a0 c0 1 w3
  try rw[exN_out] at hc
  obtain ⟨p0,p1,p2,p3,pf⟩:=box4 E1;obtain ⟨r0,r1,r2,r3,rf⟩:=box4 L1;obtain ⟨s0,s1,s2,s3,sf⟩:=box4 R1;go_wp2_with fail;refine hc.mono ?_;rintro u w4 ⟨rfl,b4⟩;obtain ⟨B4,E1,L1,R1,Z1⟩:=bxs B3 b4 E1 L1 R1 Z1;clear hc b4 p0 p1 p2 p3 pf r0 r1 r2 r3 rf s0 s1 s2 s3 sf B3;cases hx0:isE x 1 1 with
  | true =>
   have hans:Hid (opE e x y=y):=by show _=_;rw[HN.out];simp[k10,hx0]
   clear k10 hx0 HN;have HU:=rule_hu y a1 c1 Z1 B4;obtain ⟨p0,p1,p2,p3,pf⟩:=box4 E1;obtain ⟨r0,r1,r2,r3,rf⟩:=box4 L1;obtain ⟨s0,s1,s2,s3,sf⟩:=box4 R1;obtain ⟨z0,z1,z2,z3,zf⟩:=box4 Z1;clear Z1 E1 L1 R1;go_wp2;obtain ⟨wz,hwz,v0,v1,v2,v3,BZ⟩:=HU.out;rw[<-hwz];rw[HB.out] at BZ;exact bodyPost_ret (v:=exN y a1 c1) (by simp[results,Tryz.results111,go_sem,v0,v1,v2,v3,exN]) rfl ⟨a1,c1,by rw[hans.out],by rw[hans.out];exact SY,BZ⟩
  | false =>
   have hc:=isnum_c y a1 c1 1 w4
   try rw[exN_out] at hc
   obtain ⟨p0,p1,p2,p3,pf⟩:=box4 E1;obtain ⟨r0,r1,r2,r3,rf⟩:=box4 L1;obtain ⟨s0,s1,s2,s3,sf⟩:=box4 R1;go_wp2_with fail;refine hc.mono ?_;rintro u w5 ⟨rfl,b5⟩;obtain ⟨B5,E1,L1,R1,Z1⟩:=bxs B4 b5 E1 L1 R1 Z1;clear hc b5 p0 p1 p2 p3 pf r0 r1 r2 r3 rf s0 s1 s2 s3 sf B4;cases hy0:isE y 1 1 with
   | true =>
    have hans:Hid (opE e x y=x):=by show _=_;rw[HN.out];simp[k10,hx0,hy0]
    clear k10 hx0 hy0 HN;have HU:=rule_hu x a0 c0 Z1 B5;obtain ⟨p0,p1,p2,p3,pf⟩:=box4 E1;obtain ⟨r0,r1,r2,r3,rf⟩:=box4 L1;obtain ⟨s0,s1,s2,s3,sf⟩:=box4 R1;obtain ⟨z0,z1,z2,z3,zf⟩:=box4 Z1;clear Z1 E1 L1 R1;go_wp2;obtain ⟨wz,hwz,v0,v1,v2,v3,BZ⟩:=HU.out;rw[<-hwz];rw[HB.out] at BZ;exact bodyPost_ret (v:=exN x a0 c0) (by simp[results,Tryz.results111,go_sem,v0,v1,v2,v3,exN]) rfl ⟨a0,c0,by rw[hans.out],by rw[hans.out];exact SX,BZ⟩
   | false =>
    have hans:Hid (opE e x y=e):=by show _=_;rw[HN.out];simp[k10,hx0,hy0]
    clear k10 hx0 hy0 HN;have HU:=rule_hu e (some ⟨b,0,none⟩) cap Z1 B5;obtain ⟨p0,p1,p2,p3,pf⟩:=box4 E1;obtain ⟨r0,r1,r2,r3,rf⟩:=box4 L1;obtain ⟨s0,s1,s2,s3,sf⟩:=box4 R1;obtain ⟨z0,z1,z2,z3,zf⟩:=box4 Z1;clear Z1 E1 L1 R1;go_wp2;obtain ⟨wz,hwz,v0,v1,v2,v3,BZ⟩:=HU.out;rw[<-hwz];rw[HB.out] at BZ;exact bodyPost_ret (v:=exN e (some ⟨b,0,none⟩) cap) (by simp[results,Tryz.results111,go_sem,v0,v1,v2,v3,exN]) rfl ⟨(some ⟨b,0,none⟩),cap,by rw[hans.out],by rw[hans.out];exact S,BZ⟩
 focus
  have t7:(e.k==7)=false:=by simp;omega
  have t8:(e.k==8)=false:=by simp;omega
  have t9:(e.k==9)=false:=by simp;omega
  have t10:(e.k==10)=false:=by simp;omega
  have t11:(e.k==11)=true:=by simp;omega
  have hc:=isnum_c y a1 c1 1 w3
  try rw[exN_out] at hc
  obtain ⟨p0,p1,p2,p3,pf⟩:=box4 E1;obtain ⟨r0,r1,r2,r3,rf⟩:=box4 L1;obtain ⟨s0,s1,s2,s3,sf⟩:=box4 R1;go_wp2_with fail;refine hc.mono ?_;rintro u w4 ⟨rfl,b4⟩;obtain ⟨B4,E1,L1,R1,Z1⟩:=bxs B3 b4 E1 L1 R1 Z1;clear hc b4 p0 p1 p2 p3 pf r0 r1 r2 r3 rf s0 s1 s2 s3 sf B3;cases hy0:isE y 1 1 with
  | true =>
   have hans:Hid (opE e x y=x):=by show _=_;rw[HN.out];simp[k11,hy0]
   clear k11 hy0 HN;have HU:=rule_hu x a0 c0 Z1 B4;obtain ⟨p0,p1,p2,p3,pf⟩:=box4 E1;obtain ⟨r0,r1,r2,r3,rf⟩:=box4 L1;obtain ⟨s0,s1,s2,s3,sf⟩:=box4 R1;obtain ⟨z0,z1,z2,z3,zf⟩:=box4 Z1;clear Z1 E1 L1 R1;go_wp2;obtain ⟨wz,hwz,v0,v1,v2,v3,BZ⟩:=HU.out;rw[<-hwz];rw[HB.out] at BZ;exact bodyPost_ret (v:=exN x a0 c0) (by simp[results,Tryz.results111,go_sem,v0,v1,v2,v3,exN]) rfl ⟨a0,c0,by rw[hans.out],by rw[hans.out];exact SX,BZ⟩
  | false =>
   have hans:Hid (opE e x y=e):=by show _=_;rw[HN.out];simp[k11,hy0]
   clear k11 hy0 HN;have HU:=rule_hu e (some ⟨b,0,none⟩) cap Z1 B4;obtain ⟨p0,p1,p2,p3,pf⟩:=box4 E1;obtain ⟨r0,r1,r2,r3,rf⟩:=box4 L1;obtain ⟨s0,s1,s2,s3,sf⟩:=box4 R1;obtain ⟨z0,z1,z2,z3,zf⟩:=box4 Z1;clear Z1 E1 L1 R1;go_wp2;obtain ⟨wz,hwz,v0,v1,v2,v3,BZ⟩:=HU.out;rw[<-hwz];rw[HB.out] at BZ;exact bodyPost_ret (v:=exN e (some ⟨b,0,none⟩) cap) (by simp[results,Tryz.results111,go_sem,v0,v1,v2,v3,exN]) rfl ⟨(some ⟨b,0,none⟩),cap,by rw[hans.out],by rw[hans.out];exact S,BZ⟩
 focus
  have t7:(e.k==7)=false:=by simp;omega
  have t8:(e.k==8)=false:=by simp;omega
  have t9:(e.k==9)=false:=by simp;omega
  have t10:(e.k==10)=false:=by simp;omega
  have t11:(e.k==11)=false:=by simp;omega
  have hans:Hid (opE e x y=e):=by show _=_;rw[HN.out,if_neg (by omega),if_neg (by omega),if_neg (by omega),if_neg (by omega),if_neg (by omega)]
  clear kno;have HU:=rule_hu e (some ⟨b,0,none⟩) cap Z1 B3;obtain ⟨p0,p1,p2,p3,pf⟩:=box4 E1;obtain ⟨r0,r1,r2,r3,rf⟩:=box4 L1;obtain ⟨s0,s1,s2,s3,sf⟩:=box4 R1;obtain ⟨z0,z1,z2,z3,zf⟩:=box4 Z1;clear Z1 E1 L1 R1;go_wp2;obtain ⟨wz,hwz,v0,v1,v2,v3,BZ⟩:=HU.out;rw[<-hwz];rw[HB.out] at BZ;exact bodyPost_ret (v:=exN e (some ⟨b,0,none⟩) cap) (by simp[results,Tryz.results111,go_sem,v0,v1,v2,v3,exN]) rfl ⟨(some ⟨b,0,none⟩),cap,by rw[hans.out],by rw[hans.out];exact S,BZ⟩
theorem k_facts {k c:Int}(h:k=c):(k==6)=(c==6)/\(k==7)=(c==7)/\(k==8)=(c==8)/\(k==9)=(c==9)/\(k==10)=(c==10)/\(k==11)=(c==11)/\(k==12)=(c==12)/\(k==13)=(c==13)/\(k==14)=(c==14)/\(k==15)=(c==15)/\(k==16)=(c==16)/\(k==17)=(c==17)/\(k==18)=(c==18)/\(k==19)=(c==19)/\(k==21)=(c==21)/\(k==26)=(c==26):=by
 subst h;exact ⟨rfl,rfl,rfl,rfl,rfl,rfl,rfl,rfl,rfl,rfl,rfl,rfl,rfl,rfl,rfl,rfl⟩
theorem TyE.in64 {x:Ex}{t:Int}(h:TyE x t)(hc:cnE x=true):In64 x.n:=by
 obtain ⟨_,_,_,_,_,h2,h1⟩:=h;rcases (cnE_iff x).1 hc with h|h
 ·exact h1 h
 ·have:=h2 h
  unfold In64;omega
theorem TyE.k77 {x:Ex}{t:Int}(h:TyE x t)(hk:x.k=7):∃z,x.kids=Fs.ex z .nil:=by
 obtain ⟨-,y,hy,-⟩:=h.k7 hk;exact ⟨y,hy⟩
theorem TyE.shape {e:Ex}{t:Int}(h:TyE e t) :
  ((e.k=6\/e.k=7\/e.k=26)->∃x tx,e.kids=Fs.ex x .nil/\TyE x tx)/\(((8<=e.k/\e.k<=18)\/e.k=21)->∃x y tx ty,e.kids=Fs.ex x (Fs.ex y .nil)/\TyE x tx/\TyE y ty)/\(e.k=19->∃x y z,e.kids=Fs.ex x (Fs.ex y (Fs.ex z .nil))):=by
 obtain ⟨kd,hF,hf1,hf2,ht,hb,hn⟩:=h;have one:∀ a b,formP e.k e.n kd=([a],b)->∃x tx,e.kids=Fs.ex x .nil/\TyE x tx:=fun a b hf=>by
  rw[hf] at hf1;rw[<-hf1] at hF;obtain ⟨x,h1,h2⟩:=TyF_one hF;exact ⟨x,a,h1,h2⟩
 have two:∀ a a' b,formP e.k e.n kd=([a,a'],b)->∃x y tx ty,e.kids=Fs.ex x (Fs.ex y .nil)/\TyE x tx/\TyE y ty:=fun a a' b hf=>by
  rw[hf] at hf1;rw[<-hf1] at hF;obtain ⟨x,y,h1,h2,h3⟩:=TyF_two hF;exact ⟨x,y,a,a',h1,h2,h3⟩
 refine ⟨fun h=>?_,fun h=>?_,fun h=>?_⟩
 ·rcases h with h|h|h
  ·exact one 1 1 (by rw[h];simp[formP])
  ·exact one 2 2 (by rw[h];simp[formP])
  ·exact one (wkP kd 0) (wkP kd 0) (by rw[h];simp[formP])
 ·have hh:(8<=e.k/\e.k<=12)\/(e.k=13\/e.k=14)\/(e.k=15\/e.k=16)\/(e.k=17\/e.k=18)\/e.k=21:=by omega
  rcases hh with h|h|h|h|h
  ·exact two 1 1 1 (by unfold formP;rw[if_neg (by omega),if_neg (by omega),if_neg (by omega),if_neg (by omega),if_neg (by omega),if_pos h])
  ·exact two (wkP kd 0) (wkP kd 0) 2 (by unfold formP;rw[if_neg (by omega),if_neg (by omega),if_neg (by omega),if_neg (by omega),if_neg (by omega),if_neg (by omega),if_neg (by omega),if_neg (by omega),if_pos (by omega)])
  ·exact two 1 1 2 (by unfold formP;rw[if_neg (by omega),if_neg (by omega),if_neg (by omega),if_neg (by omega),if_neg (by omega),if_neg (by omega),if_pos h])
  ·exact two 2 2 2 (by unfold formP;rw[if_neg (by omega),if_neg (by omega),if_neg (by omega),if_neg (by omega),if_neg (by omega),if_neg (by omega),if_neg (by omega),if_pos h])
  ·have hl:kd.length=2:=by
    rw[<-hf1,h];simp only[formP];simp
    split
    ·rfl
    ·split <;> rfl
   match kd,hl with
   | [p,q],_ =>
    obtain ⟨x,y,h1,h2,h3⟩:=TyF_two hF;exact ⟨x,y,p,q,h1,h2,h3⟩
 ·have hf:formP e.k e.n kd=([2,wkP kd 1,wkP kd 1],wkP kd 1):=by rw[h];simp[formP]
  rw[hf] at hf1;rw[<-hf1] at hF;obtain ⟨x,y,z,h1,-⟩:=TyF_three hF;exact ⟨x,y,z,h1⟩
def PostRv (w:World)(P:Nat->Prop)(y:Ex)(x:Ending)(w':World):Prop:=∃ao cap,x=.returned (exN y ao cap)/\SlcN w' P y.kids ao cap/\Below w.heap.size w w'
theorem ruled_c (e:Ex){t:Int}(hT:TyE e t)(ao:Option Addr)(cap:Nat)(P:Nat->Prop)(w:World)(hP:∀ i,P i->i<w.heap.size)(S:SlcN w P e.kids ao cap) :
  Calls Tryz.prog 75 #[exN e ao cap] w (PostRv w P (rulP e)):=by
 obtain ⟨R,hR⟩:∃R,R=rulP e:=⟨_,rfl⟩;rw[<-hR];have HR:Hid (R=rulP e):=hR;clear hR;obtain ⟨w0,hw0⟩:∃w0,w0=(w.alloc (.cells #[.int .i64 e.k,.int .i64 e.n,stv e.nm,.slice ao e.kids.len cap] 34)).alloc (.cells #[.int .i64 0,.int .i64 0,.string ⟨#[]⟩,.slice none 0 0] 34):=⟨_,rfl⟩;have B0:Below w.heap.size w w0:=by rw[hw0];exact ((Below.refl _ w).alloc (Nat.le_refl _) _).alloc (by simp) _
 have E0:w0.heap[w.heap.size]?=some (.cells #[.int .i64 e.k,.int .i64 e.n,stv e.nm,.slice ao e.kids.len cap] 34 (0,0)):=by rw[hw0];exact (Below.heap_alloc _ _ _ (by simp)).trans (heap_alloc_new w _)
 have Z0:w0.heap[w.heap.size+1]?=some (.cells #[.int .i64 0,.int .i64 0,.string ⟨#[]⟩,.slice none 0 0] 34 (0,0)):=by
  rw[hw0]
  have:=heap_alloc_new (w.alloc (.cells #[.int .i64 e.k,.int .i64 e.n,stv e.nm,.slice ao e.kids.len cap] 34)) (.cells #[.int .i64 0,.int .i64 0,.string ⟨#[]⟩,.slice none 0 0] 34)
  simpa using this
 have S0:=S.below B0;have HF:Hid (∀ w1 wz a c,SlcN w0 P R.kids a c->Below w0.heap.size w0 w1->Below w.heap.size w1 wz->PostRv w P R (.returned (exN R a c)) wz):=fun w1 wz a c SR b1 BZ=>by
  refine ⟨a,c,rfl,SR.mono (fun i hi hl=>(BZ.block i (hP i hi)).trans (b1.block i hl)) (Nat.le_trans b1.size BZ.size) (fun _ h _=>h),?_⟩
  exact (B0.trans (b1.mono B0.size)).trans BZ
 have hsh:=hT.shape;have HT:Hid (TyE e t):=hT;rw[exN_out];go_enter Tryz.func75,Tryz.ntmps75;go_upto_region 1 with fail;rw[<-hw0];obtain ⟨bx,hbx⟩:∃bx,bx=w.heap.size:=⟨_,rfl⟩;rw[<-hbx] at E0 Z0 HF
 try rw[<-hbx]
 clear hbx hw0 hT hP B0 S;obtain ⟨p0,p1,p2,p3,pf⟩:=box4 E0;have hcs:(6<=e.k/\e.k<=16)\/e.k=17\/e.k=18\/e.k=19\/e.k=21\/e.k=26\/(¬(6<=e.k/\e.k<=16)/\e.k≠17/\e.k≠18/\e.k≠19/\e.k≠21/\e.k≠26):=by omega
 rcases hcs with hk|hk|hk|hk|hk|hk|hk
 focus
  have hc:Calls Tryz.prog 111 #[exN e ao cap] w0 (PostRu w0 w0 P R):=by
   by_cases h67:e.k=6\/e.k=7
   ·obtain ⟨x,tx,hx,hTx⟩:=hsh.1 (by omega)
    have hRx:R=opE e x x:=by rw[HR.out];unfold rulP;rw[if_pos hk,if_pos h67,kid_1 hx]
    rw[hRx];exact operation_c e x x ao cap P w0 hk (.inl ⟨hx,rfl⟩) (fun _ h=>hTx.k77 h) (fun h=>hTx.in64 h) (fun h=>hTx.in64 h) S0
   ·obtain ⟨x,y,tx,ty,hx,hTx,hTy⟩:=hsh.2.1 (by omega)
    have hRx:R=opE e x y:=by rw[HR.out];unfold rulP;rw[if_pos hk,if_neg h67,kid_1 hx,kid_2 hx]
    rw[hRx];exact operation_c e x y ao cap P w0 hk (.inr hx) (fun _ h=>hTx.k77 h) (fun h=>hTx.in64 h) (fun h=>hTy.in64 h) S0
  clear hsh HT S0 HR;have hk2:e.k=6\/e.k=7\/e.k=8\/e.k=9\/e.k=10\/e.k=11\/e.k=12\/e.k=13\/e.k=14\/e.k=15\/e.k=16:=by omega
  clear hk;rcases hk2 with hk|hk|hk|hk|hk|hk|hk|hk|hk|hk|hk
  all_goals (
   obtain ⟨t6,t7,t8,t9,t10,t11,t12,t13,t14,t15,t16,t17,t18,t19,t21,t26⟩:=k_facts hk;clear hk;rw[exN_out] at hc;go_wp2_with fail;refine hc.mono ?_;rintro u w1 ⟨a1,c1,rfl,SR,b1⟩;have Z1:=(b1.block _ (lt_of_block Z0)).trans Z0;clear hc p0 p1 p2 p3 pf Z0 E0;rw[exN_out];have HU:=rule_hu (w:=w1) R a1 c1 Z1 (Below.refl _ w1);obtain ⟨z0,z1,z2,z3,zf⟩:=box4 Z1;clear Z1;go_wp2;obtain ⟨wz,hwz,v0,v1,v2,v3,BZ⟩:=HU.out;rw[<-hwz];exact bodyPost_ret (v:=exN R a1 c1) (by simp[results,Tryz.results75,go_sem,v0,v1,v2,v3,exN]) rfl (HF.out _ _ _ _ SR b1 BZ))
 focus
  have hc:Calls Tryz.prog 112 #[exN e ao cap,.int .i64 0] w0 (PostRu w0 w0 P R):=by
   obtain ⟨x,y,tx,ty,hx,-,-⟩:=hsh.2.1 (by omega)
   have hRx:R=coE e x y 0:=by rw[HR.out];unfold rulP;rw[if_neg (by omega),if_pos hk,kid_1 hx,kid_2 hx]
   rw[hRx];exact connective_c e x y 0 (by decide) ao cap P w0 hx S0
  clear hsh HT S0 HR;obtain ⟨t6,t7,t8,t9,t10,t11,t12,t13,t14,t15,t16,t17,t18,t19,t21,t26⟩:=k_facts hk;clear hk;rw[exN_out] at hc;go_wp2_with fail;refine hc.mono ?_;rintro u w1 ⟨a1,c1,rfl,SR,b1⟩;have Z1:=(b1.block _ (lt_of_block Z0)).trans Z0;clear hc p0 p1 p2 p3 pf Z0 E0;rw[exN_out];have HU:=rule_hu (w:=w1) R a1 c1 Z1 (Below.refl _ w1);obtain ⟨z0,z1,z2,z3,zf⟩:=box4 Z1;clear Z1;go_wp2;obtain ⟨wz,hwz,v0,v1,v2,v3,BZ⟩:=HU.out;rw[<-hwz];exact bodyPost_ret (v:=exN R a1 c1) (by simp[results,Tryz.results75,go_sem,v0,v1,v2,v3,exN]) rfl (HF.out _ _ _ _ SR b1 BZ)
 focus
  have hc:Calls Tryz.prog 112 #[exN e ao cap,.int .i64 1] w0 (PostRu w0 w0 P R):=by
   obtain ⟨x,y,tx,ty,hx,-,-⟩:=hsh.2.1 (by omega)
   have hRx:R=coE e x y 1:=by rw[HR.out];unfold rulP;rw[if_neg (by omega),if_neg (by omega),if_pos hk,kid_1 hx,kid_2 hx]
   rw[hRx];exact connective_c e x y 1 (by decide) ao cap P w0 hx S0
  clear hsh HT S0 HR;obtain ⟨t6,t7,t8,t9,t10,t11,t12,t13,t14,t15,t16,t17,t18,t19,t21,t26⟩:=k_facts hk;clear hk;rw[exN_out] at hc;go_wp2_with fail;refine hc.mono ?_;rintro u w1 ⟨a1,c1,rfl,SR,b1⟩;have Z1:=(b1.block _ (lt_of_block Z0)).trans Z0;clear hc p0 p1 p2 p3 pf Z0 E0;rw[exN_out];have HU:=rule_hu (w:=w1) R a1 c1 Z1 (Below.refl _ w1);obtain ⟨z0,z1,z2,z3,zf⟩:=box4 Z1;clear Z1;go_wp2;obtain ⟨wz,hwz,v0,v1,v2,v3,BZ⟩:=HU.out;rw[<-hwz];exact bodyPost_ret (v:=exN R a1 c1) (by simp[results,Tryz.results75,go_sem,v0,v1,v2,v3,exN]) rfl (HF.out _ _ _ _ SR b1 BZ)
 focus
  have hc:Calls Tryz.prog 113 #[exN e ao cap] w0 (PostRu w0 w0 P R):=by
   obtain ⟨x,y,z,hx⟩:=hsh.2.2 hk;have hRx:R=chE e x y z:=by rw[HR.out];unfold rulP;rw[if_neg (by omega),if_neg (by omega),if_neg (by omega),if_pos hk,kid_1 hx,kid_2 hx,kid_3 hx]
   rw[hRx];exact choice_c e x y z ao cap P w0 hx S0
  clear hsh HT S0 HR;obtain ⟨t6,t7,t8,t9,t10,t11,t12,t13,t14,t15,t16,t17,t18,t19,t21,t26⟩:=k_facts hk;clear hk;rw[exN_out] at hc;go_wp2_with fail;refine hc.mono ?_;rintro u w1 ⟨a1,c1,rfl,SR,b1⟩;have Z1:=(b1.block _ (lt_of_block Z0)).trans Z0;clear hc p0 p1 p2 p3 pf Z0 E0;rw[exN_out];have HU:=rule_hu (w:=w1) R a1 c1 Z1 (Below.refl _ w1);obtain ⟨z0,z1,z2,z3,zf⟩:=box4 Z1;clear Z1;go_wp2;obtain ⟨wz,hwz,v0,v1,v2,v3,BZ⟩:=HU.out;rw[<-hwz];exact bodyPost_ret (v:=exN R a1 c1) (by simp[results,Tryz.results75,go_sem,v0,v1,v2,v3,exN]) rfl (HF.out _ _ _ _ SR b1 BZ)
 focus
  have hc:Calls Tryz.prog 114 #[exN e ao cap] w0 (PostRu w0 w0 P R):=by
   obtain ⟨x,y,tx,ty,hx,-,-⟩:=hsh.2.1 (by omega)
   have hRx:R=qnE e x y:=by rw[HR.out];unfold rulP;rw[if_neg (by omega),if_neg (by omega),if_neg (by omega),if_neg (by omega),if_pos hk,kid_1 hx,kid_2 hx]
   rw[hRx];exact quantifier_c e x y ao cap P w0 hx S0
  clear hsh HT S0 HR;obtain ⟨t6,t7,t8,t9,t10,t11,t12,t13,t14,t15,t16,t17,t18,t19,t21,t26⟩:=k_facts hk;clear hk;rw[exN_out] at hc;go_wp2_with fail;refine hc.mono ?_;rintro u w1 ⟨a1,c1,rfl,SR,b1⟩;have Z1:=(b1.block _ (lt_of_block Z0)).trans Z0;clear hc p0 p1 p2 p3 pf Z0 E0;rw[exN_out];have HU:=rule_hu (w:=w1) R a1 c1 Z1 (Below.refl _ w1);obtain ⟨z0,z1,z2,z3,zf⟩:=box4 Z1;clear Z1;go_wp2;obtain ⟨wz,hwz,v0,v1,v2,v3,BZ⟩:=HU.out;rw[<-hwz];exact bodyPost_ret (v:=exN R a1 c1) (by simp[results,Tryz.results75,go_sem,v0,v1,v2,v3,exN]) rfl (HF.out _ _ _ _ SR b1 BZ)
 focus
  obtain ⟨x,tx,hx,hTx⟩:=hsh.1 (by omega)
  have HRx:Hid (R=if cnE x then x else e):=by show _=_;rw[HR.out];unfold rulP;rw[if_neg (by omega),if_neg (by omega),if_neg (by omega),if_neg (by omega),if_neg (by omega),if_pos hk,kid_1 hx]
  have S2:=S0;rw[hx] at S2;obtain ⟨b,a0,c0,hao,hb,x0,x1,x2,x3,SX⟩:=SlcN.kidM (d:=.nil) S2;have hl0:(0:Int)<(e.kids.len:Int):=by rw[hx];show (0:Int)<((1:Nat):Int);decide
  subst hao;simp only[Fs.len,Nat.zero_mul,Nat.zero_add] at x0 x1 x2 x3;have hc:=iscon_c x a0 c0 w0;rw[exN_out] at hc;obtain ⟨t6,t7,t8,t9,t10,t11,t12,t13,t14,t15,t16,t17,t18,t19,t21,t26⟩:=k_facts hk;clear hsh HT HR hk hx S2;go_wp2_with fail;refine hc.mono ?_;rintro u w1 ⟨rfl,b1⟩;have E1:=(b1.block _ (lt_of_block E0)).trans E0;have Z1:=(b1.block _ (lt_of_block Z0)).trans Z0;have x0:=(b1.cell (p:=⟨b,0,none⟩) hb).trans x0;have x1:=(b1.cell (p:=⟨b,1,none⟩) hb).trans x1;have x2:=(b1.cell (p:=⟨b,2,none⟩) hb).trans x2;have x3:=(b1.cell (p:=⟨b,3,none⟩) hb).trans x3;clear hc p0 p1 p2 p3 pf Z0 E0 hb;obtain ⟨p0,p1,p2,p3,pf⟩:=box4 E1;cases hcx:cnE x with
  | true =>
   have hRe:R=x:=by rw[HRx.out,hcx];rfl
   subst hRe;have HU:=rule_hu (w:=w1) R a0 c0 Z1 (Below.refl _ w1);obtain ⟨z0,z1,z2,z3,zf⟩:=box4 Z1;clear Z1;go_wp2;obtain ⟨wz,hwz,v0,v1,v2,v3,BZ⟩:=HU.out;rw[<-hwz];exact bodyPost_ret (v:=exN R a0 c0) (by simp[results,Tryz.results75,go_sem,v0,v1,v2,v3,exN]) rfl (HF.out _ _ _ _ SX b1 BZ)
  | false =>
   have hRe:R=e:=by rw[HRx.out,hcx];rfl
   subst hRe;have HU:=rule_hu (w:=w1) R (some ⟨b,0,none⟩) cap Z1 (Below.refl _ w1);obtain ⟨z0,z1,z2,z3,zf⟩:=box4 Z1;clear Z1;go_wp2;obtain ⟨wz,hwz,v0,v1,v2,v3,BZ⟩:=HU.out;rw[<-hwz];exact bodyPost_ret (v:=exN R (some ⟨b,0,none⟩) cap) (by simp[results,Tryz.results75,go_sem,v0,v1,v2,v3,exN]) rfl (HF.out _ _ _ _ S0 b1 BZ)
 focus
  have hRe:R=e:=by rw[HR.out];unfold rulP;rw[if_neg (by omega),if_neg (by omega),if_neg (by omega),if_neg (by omega),if_neg (by omega),if_neg (by omega)]
  have t6:(e.k==6)=false:=by simp;omega
  have t7:(e.k==7)=false:=by simp;omega
  have t8:(e.k==8)=false:=by simp;omega
  have t9:(e.k==9)=false:=by simp;omega
  have t10:(e.k==10)=false:=by simp;omega
  have t11:(e.k==11)=false:=by simp;omega
  have t12:(e.k==12)=false:=by simp;omega
  have t13:(e.k==13)=false:=by simp;omega
  have t14:(e.k==14)=false:=by simp;omega
  have t15:(e.k==15)=false:=by simp;omega
  have t16:(e.k==16)=false:=by simp;omega
  have t17:(e.k==17)=false:=by simp;omega
  have t18:(e.k==18)=false:=by simp;omega
  have t19:(e.k==19)=false:=by simp;omega
  have t21:(e.k==21)=false:=by simp;omega
  have t26:(e.k==26)=false:=by simp;omega
  clear hsh HT HR hk;subst hRe;have Z1:=Z0;have b1:=Below.refl w0.heap.size w0;clear Z0;have HU:=rule_hu (w:=w0) R ao cap Z1 (Below.refl _ w0);obtain ⟨z0,z1,z2,z3,zf⟩:=box4 Z1;clear Z1;go_wp2;obtain ⟨wz,hwz,v0,v1,v2,v3,BZ⟩:=HU.out;rw[<-hwz];exact bodyPost_ret (v:=exN R ao cap) (by simp[results,Tryz.results75,go_sem,v0,v1,v2,v3,exN]) rfl (HF.out _ _ _ _ S0 b1 BZ)
end Go.Proofs.YtaihhnlfcndecaaGreatDoor
