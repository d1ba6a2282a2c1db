import Derived.Test.YtjjhcbmhdkobkaaDoorDrB
import Derived.SizedLaws
import Derived.ShutString
import Derived.Stop.LaidErr
import Derived.Deep.DeepHandedRow
set_option maxRecDepth 100000
set_option maxHeartbeats 8000000
namespace Go.Proofs.YtjjhcbmhdkobkaaDoor
open Go.ChangeShapes Go.WideShapes Go.ChangeAt Go.RowKit
set_option linter.unusedVariables false
set_option linter.unusedSimpArgs false
abbrev I36:Nat->Prop:=fun k=>3<=k/\k<=6
theorem Row.put1 {w:World}{o:Nat->Nat}{i:Nat}{e:TypeId}{ao:Option Addr}{n cap:Nat}{xs:List Value}(h:Row w o i e 1 (.slice ao n cap) n xs){j:Nat}(hj:j<n) :
  ∃b x,ao=some ⟨b,0,none⟩/\o b=i/\w.cell? ⟨b,j,none⟩=some x/\w.frozen? ⟨b,j,none⟩=false/\∀ u,Row (w.setCell ⟨b,j,none⟩ u) o i e 1 (.slice ao n cap) n (xs.set j u):=by
 obtain⟨g,c,hv,ho,-,-,-,hc,hf⟩:=h.pos (by omega);simp only[Value.slice.injEq,true_and] at hv;obtain⟨rfl,rfl⟩:=hv;have hl:=h.len;have hjx:j<xs.length:=by omega
 exact⟨g,xs[j],rfl,ho,by rw[hc j (by omega)];exact List.getElem?_eq_getElem hjx,hf j,fun u=>h.store j u⟩
structure Ovs (w0:World)(o0:Nat->Nat)(g:Nat)(p:Pl)(c:Cd)(w:World)(o:Nat->Nat):Prop where
 bx:Blk w o 9 g (.cells (cdA p c) 26)
 ws:∃xs,Row w o 3 33 1 (.slice p.aw c.ws.length p.cw) c.ws.length xs
 cs:∃xs,Row w o 4 3 1 (.slice p.ac c.cs.length p.cc) c.cs.length xs
 ns:∃xs,Row w o 5 9 1 (.slice p.an c.ns.length p.cn) c.ns.length xs
 ks:∃xs,Row w o 6 3 1 (.slice p.ak c.ks.length p.ck) c.ks.length xs
 sp:Step I36 w0 o0 w o
theorem Ovs.ws1 {w0 w:World}{o0 o:Nat->Nat}{g:Nat}{p:Pl}{c:Cd}(h:Ovs w0 o0 g p c w o){j:Nat}(hj:j<c.ws.length):∃b x,p.aw=some ⟨b,0,none⟩/\w.cell? ⟨b,j,none⟩=some x/\w.frozen? ⟨b,j,none⟩=false/\∀ u,Ovs w0 o0 g p c (w.setCell ⟨b,j,none⟩ u) o:=by
 obtain⟨xs,hx⟩:=h.ws;obtain⟨b,x,e1,e2,e3,e4,hr⟩:=hx.put1 hj;have S:∀ u,Step (fun k=>k=3) w o (w.setCell ⟨b,j,none⟩ u) o:=fun u=>(Step.refl _ w o).setCell ⟨b,j,none⟩ u e2;exact⟨b,x,e1,e3,e4,fun u=>⟨h.bx.step (S u) (by decide),⟨_,hr u⟩,(by obtain⟨ys,hy⟩:=h.cs;exact⟨ys,hy.step (S u) (by decide)⟩),(by obtain⟨ys,hy⟩:=h.ns;exact⟨ys,hy.step (S u) (by decide)⟩),(by obtain⟨ys,hy⟩:=h.ks;exact⟨ys,hy.step (S u) (by decide)⟩),h.sp.trans ((S u).mono (fun k hk=>by subst hk;decide))⟩⟩
theorem Ovs.cs1 {w0 w:World}{o0 o:Nat->Nat}{g:Nat}{p:Pl}{c:Cd}(h:Ovs w0 o0 g p c w o){j:Nat}(hj:j<c.cs.length):∃b x,p.ac=some ⟨b,0,none⟩/\w.cell? ⟨b,j,none⟩=some x/\w.frozen? ⟨b,j,none⟩=false/\∀ u,Ovs w0 o0 g p c (w.setCell ⟨b,j,none⟩ u) o:=by
 obtain⟨xs,hx⟩:=h.cs;obtain⟨b,x,e1,e2,e3,e4,hr⟩:=hx.put1 hj;have S:∀ u,Step (fun k=>k=4) w o (w.setCell ⟨b,j,none⟩ u) o:=fun u=>(Step.refl _ w o).setCell ⟨b,j,none⟩ u e2;exact⟨b,x,e1,e3,e4,fun u=>⟨h.bx.step (S u) (by decide),(by obtain⟨ys,hy⟩:=h.ws;exact⟨ys,hy.step (S u) (by decide)⟩),⟨_,hr u⟩,(by obtain⟨ys,hy⟩:=h.ns;exact⟨ys,hy.step (S u) (by decide)⟩),(by obtain⟨ys,hy⟩:=h.ks;exact⟨ys,hy.step (S u) (by decide)⟩),h.sp.trans ((S u).mono (fun k hk=>by subst hk;decide))⟩⟩
theorem Ovs.ns1 {w0 w:World}{o0 o:Nat->Nat}{g:Nat}{p:Pl}{c:Cd}(h:Ovs w0 o0 g p c w o){j:Nat}(hj:j<c.ns.length):∃b x,p.an=some ⟨b,0,none⟩/\w.cell? ⟨b,j,none⟩=some x/\w.frozen? ⟨b,j,none⟩=false/\∀ u,Ovs w0 o0 g p c (w.setCell ⟨b,j,none⟩ u) o:=by
 obtain⟨xs,hx⟩:=h.ns;obtain⟨b,x,e1,e2,e3,e4,hr⟩:=hx.put1 hj;have S:∀ u,Step (fun k=>k=5) w o (w.setCell ⟨b,j,none⟩ u) o:=fun u=>(Step.refl _ w o).setCell ⟨b,j,none⟩ u e2;exact⟨b,x,e1,e3,e4,fun u=>⟨h.bx.step (S u) (by decide),(by obtain⟨ys,hy⟩:=h.ws;exact⟨ys,hy.step (S u) (by decide)⟩),(by obtain⟨ys,hy⟩:=h.cs;exact⟨ys,hy.step (S u) (by decide)⟩),⟨_,hr u⟩,(by obtain⟨ys,hy⟩:=h.ks;exact⟨ys,hy.step (S u) (by decide)⟩),h.sp.trans ((S u).mono (fun k hk=>by subst hk;decide))⟩⟩
theorem Ovs.ks1 {w0 w:World}{o0 o:Nat->Nat}{g:Nat}{p:Pl}{c:Cd}(h:Ovs w0 o0 g p c w o){j:Nat}(hj:j<c.ks.length):∃b x,p.ak=some ⟨b,0,none⟩/\w.cell? ⟨b,j,none⟩=some x/\w.frozen? ⟨b,j,none⟩=false/\∀ u,Ovs w0 o0 g p c (w.setCell ⟨b,j,none⟩ u) o:=by
 obtain⟨xs,hx⟩:=h.ks;obtain⟨b,x,e1,e2,e3,e4,hr⟩:=hx.put1 hj;have S:∀ u,Step (fun k=>k=6) w o (w.setCell ⟨b,j,none⟩ u) o:=fun u=>(Step.refl _ w o).setCell ⟨b,j,none⟩ u e2;exact⟨b,x,e1,e3,e4,fun u=>⟨h.bx.step (S u) (by decide),(by obtain⟨ys,hy⟩:=h.ws;exact⟨ys,hy.step (S u) (by decide)⟩),(by obtain⟨ys,hy⟩:=h.cs;exact⟨ys,hy.step (S u) (by decide)⟩),(by obtain⟨ys,hy⟩:=h.ns;exact⟨ys,hy.step (S u) (by decide)⟩),⟨_,hr u⟩,h.sp.trans ((S u).mono (fun k hk=>by subst hk;decide))⟩⟩
theorem over_c (p:Pl)(c:Cd)(w:World)(o:Nat->Nat)(h:CdR w o p c) :
  Calls Tryd.prog 22 #[cdV p c] w fun e w'=>e=.returned (.tuple #[])/\∃o',Step I36 w o w' o':=by
 obtain⟨iw,iw1,iw2,iw3,iw4⟩:=info_parts infoW;obtain⟨ii,ii1,ii2,ii3,ii4⟩:=info_parts infoI;obtain⟨is,is1,is2,is3,is4⟩:=info_parts infoS;obtain⟨g,hg⟩:∃g,g=w.heap.size:=⟨_,rfl⟩
 obtain⟨w2,hw2⟩:∃w2,w2=w.alloc (.cells (cdA p c) 26):=⟨_,rfl⟩
 have SN:∀ {I:Nat->Prop},Step I w o w2 (newLab w o 9):=fun {I}=>Step.newB o 9 (by rw[hw2];exact b1 _ _);have G2:Blk w2 (newLab w o 9) 9 g (.cells (cdA p c) 26):=by rw[hw2,hg];exact⟨heap_alloc_new _ _,newLab_new (Nat.le_refl _)⟩
 have h2:=h.step (SN (I:=fun _=>False)) id id id id;have Z0:Ovs w2 (newLab w o 9) g p c w2 (newLab w o 9):=⟨G2,⟨_,h2.ws⟩,⟨_,h2.cs⟩,⟨_,h2.ns⟩,⟨_,h2.ks⟩,Step.refl _ _ _⟩
 have SO:Step I36 w o w2 (newLab w o 9):=SN;have l1:=h.lw;have l2:=h.lc;have l3:=h.ln;have l4:=h.lk;generalize newLab w o 9=o2 at *;have HG:=Lib.hid hg;have HSO:=Lib.hid SO;clear SN SO G2 h h2 hg;obtain⟨⟨a0,a1,a2,a3⟩,-⟩:=cells4 Z0.bx.1;go_enter Tryd.func22,Tryd.ntmps22;go_wp2_with fail;rw[<-hw2,<-HG.out];clear hw2;go_wp2_with fail;go_loopw [2] (fun v wr=>∃k:Nat,v=.int .i64 (k:Nat)/\k<=c.ws.length/\Ovs w2 o2 g p c wr o2) (fun v _=>c.ws.length-(intOf v).toNat)
 case atStart=>exact⟨0,by go_num,by omega,Z0⟩
 case round =>
  obtain⟨k,rfl,hk,Z1⟩:=hrel;clear a0 a1 a2 a3;obtain⟨⟨a0,a1,a2,a3⟩,-⟩:=cells4 Z1.bx.1;by_cases hlt:k<c.ws.length
  ·have hkI:(k:Int)<(c.ws.length:Int):=by omega
   obtain⟨b,x,e1,e2,e3,HZ⟩:=Z1.ws1 hlt;have HZ2:=Lib.hid (HZ (.int .u64 9));rw[e1] at a0;clear HZ e1;go_wp2;go_roundw
   case rel=>(try ((repeat apply Exists.intro);refine⟨?_,rfl⟩));exact⟨k+1,by go_num,by omega,HZ2.out⟩
   case measure=>simp[intOf];omega
  ·have hkI:¬(k:Int)<(c.ws.length:Int):=by omega
   clear hlt hk;go_wp2_with fail;go_loopw [3] (fun v wr=>∃k:Nat,v=.int .i64 (k:Nat)/\k<=c.cs.length/\Ovs w2 o2 g p c wr o2) (fun v _=>c.cs.length-(intOf v).toNat)
   case atStart=>exact⟨0,by go_num,by omega,Z1⟩
   case round =>
    obtain⟨k,rfl,hk,Z2⟩:=hrel;clear a0 a1 a2 a3;obtain⟨⟨a0,a1,a2,a3⟩,-⟩:=cells4 Z2.bx.1;by_cases hlt:k<c.cs.length
    ·have hkI:(k:Int)<(c.cs.length:Int):=by omega
     obtain⟨b,x,e1,e2,e3,HZ⟩:=Z2.cs1 hlt;have HZ2:=Lib.hid (HZ (.int .i64 (-9)));rw[e1] at a1;clear HZ e1;go_wp2;go_roundw
     case rel=>(try ((repeat apply Exists.intro);refine⟨?_,rfl⟩));exact⟨k+1,by go_num,by omega,HZ2.out⟩
     case measure=>simp[intOf];omega
    ·have hkI:¬(k:Int)<(c.cs.length:Int):=by omega
     clear hlt hk;go_wp2_with fail;go_loopw [4] (fun v wr=>∃k:Nat,v=.int .i64 (k:Nat)/\k<=c.ns.length/\Ovs w2 o2 g p c wr o2) (fun v _=>c.ns.length-(intOf v).toNat)
     case atStart=>exact⟨0,by go_num,by omega,Z2⟩
     case round =>
      obtain⟨k,rfl,hk,Z3⟩:=hrel;clear a0 a1 a2 a3;obtain⟨⟨a0,a1,a2,a3⟩,-⟩:=cells4 Z3.bx.1;by_cases hlt:k<c.ns.length
      ·have hkI:(k:Int)<(c.ns.length:Int):=by omega
       obtain⟨b,x,e1,e2,e3,HZ⟩:=Z3.ns1 hlt;have HZ2:=Lib.hid (HZ (.string ⟨#[111,118,101,114]⟩));rw[e1] at a2;clear HZ e1;go_wp2;go_roundw
       case rel=>(try ((repeat apply Exists.intro);refine⟨?_,rfl⟩));exact⟨k+1,by go_num,by omega,HZ2.out⟩
       case measure=>simp[intOf];omega
      ·have hkI:¬(k:Int)<(c.ns.length:Int):=by omega
       clear hlt hk;go_wp2_with fail;go_loopw [5] (fun v wr=>∃k:Nat,v=.int .i64 (k:Nat)/\k<=c.ks.length/\Ovs w2 o2 g p c wr o2) (fun v _=>c.ks.length-(intOf v).toNat)
       case atStart=>exact⟨0,by go_num,by omega,Z3⟩
       case round =>
        obtain⟨k,rfl,hk,Z4⟩:=hrel;clear a0 a1 a2 a3;obtain⟨⟨a0,a1,a2,a3⟩,-⟩:=cells4 Z4.bx.1;by_cases hlt:k<c.ks.length
        ·have hkI:(k:Int)<(c.ks.length:Int):=by omega
         obtain⟨b,x,e1,e2,e3,HZ⟩:=Z4.ks1 hlt;have HZ2:=Lib.hid (HZ (.int .i64 (-9)));rw[e1] at a3;clear HZ e1;go_wp2;go_roundw
         case rel=>(try ((repeat apply Exists.intro);refine⟨?_,rfl⟩));exact⟨k+1,by go_num,by omega,HZ2.out⟩
         case measure=>simp[intOf];omega
        ·have hkI:¬(k:Int)<(c.ks.length:Int):=by omega
         clear hlt hk;obtain⟨x1,P1⟩:=Z4.ws;obtain⟨x2,P2⟩:=Z4.cs;obtain⟨x3,P3⟩:=Z4.ns;obtain⟨x4,P4⟩:=Z4.ks;have SX:=Z4.sp;have BX:=Z4.bx;clear Z4;go_wp2_with (first|(at_builtin;refine wpList_append_lab rfl _ _ 22 rfl 33 iw (.int .u64 0) 1 8 Tryd.underlying22 iw1 iw2 iw3 iw4 rfl (by decide) o2 3 _ c.ws.length x1 (by first|rfl|(simp;done)) (P1.step (Step.ofBelow (I:=fun _=>False) o2 (b1 _ _)) id) ⟨wr.heap.size,0,none⟩ 1 1 [.int .u64 8] rfl rfl ?c1 ?d1 (by decide) ?e1 ?f1 ?_)|go_in);try case c1=>exact new_one _ _ _
         try case d1=>first|rfl|exact one_one _ rfl
         case e1=>unfold maxLen;omega
         case f1=>omega
         intro g1 q1 w1a o1a P1 S1;have S1n:Step (fun k=>k=3) wr o2 w1a o1a:=(Step.ofBelow o2 (b1 wr (.cells #[.int .u64 8] 33))).trans S1;have SX:=SX.trans (S1n.mono (J:=I36) (fun k hk=>by subst hk;decide));have BX:=BX.step S1n (by decide)
         replace P2:=P2.step S1n (by decide)
         replace P3:=P3.step S1n (by decide)
         replace P4:=P4.step S1n (by decide)
         clear S1 S1n a0 a1 a2 a3;obtain⟨⟨a0,a1,a2,a3⟩,-⟩:=cells4 BX.1;go_wp2_with (first|(at_builtin;refine wpList_append_lab rfl _ _ 23 rfl 3 ii (.int .i64 0) 1 8 Tryd.underlying23 ii1 ii2 ii3 ii4 rfl (by decide) o1a 4 _ c.cs.length x2 (by first|rfl|(simp;done)) (P2.step (Step.ofBelow (I:=fun _=>False) o1a (b1 _ _)) id) ⟨w1a.heap.size,0,none⟩ 1 1 [.int .i64 8] rfl rfl ?c2 ?d2 (by decide) ?e2 ?f2 ?_)|go_in);try case c2=>exact new_one _ _ _
         try case d2=>first|rfl|exact one_one _ rfl
         case e2=>unfold maxLen;omega
         case f2=>omega
         intro g2 q2 w2a o2a P2 S2;have S2n:Step (fun k=>k=4) w1a o1a w2a o2a:=(Step.ofBelow o1a (b1 w1a (.cells #[.int .i64 8] 3))).trans S2;have SX:=SX.trans (S2n.mono (J:=I36) (fun k hk=>by subst hk;decide));have BX:=BX.step S2n (by decide)
         replace P1:=P1.step S2n (by decide)
         replace P3:=P3.step S2n (by decide)
         replace P4:=P4.step S2n (by decide)
         clear S2 S2n a0 a1 a2 a3;obtain⟨⟨a0,a1,a2,a3⟩,-⟩:=cells4 BX.1;go_wp2_with (first|(at_builtin;refine wpList_append_lab rfl _ _ 24 rfl 9 is (.string ⟨#[]⟩) 1 16 Tryd.underlying24 is1 is2 is3 is4 rfl (by decide) o2a 5 _ c.ns.length x3 (by first|rfl|(simp;done)) (P3.step (Step.ofBelow (I:=fun _=>False) o2a (b1 _ _)) id) ⟨w2a.heap.size,0,none⟩ 1 1 [.string ⟨#[109,111,114,101]⟩] rfl rfl ?c3 ?d3 (by decide) ?e3 ?f3 ?_)|go_in);try case c3=>exact new_one _ _ _
         try case d3=>first|rfl|exact one_one _ rfl
         case e3=>unfold maxLen;omega
         case f3=>omega
         intro g3 q3 w3a o3a P3 S3;have S3n:Step (fun k=>k=5) w2a o2a w3a o3a:=(Step.ofBelow o2a (b1 w2a (.cells #[.string ⟨#[109,111,114,101]⟩] 9))).trans S3;have SX:=SX.trans (S3n.mono (J:=I36) (fun k hk=>by subst hk;decide));have BX:=BX.step S3n (by decide)
         replace P1:=P1.step S3n (by decide)
         replace P2:=P2.step S3n (by decide)
         replace P4:=P4.step S3n (by decide)
         clear S3 S3n a0 a1 a2 a3;obtain⟨⟨a0,a1,a2,a3⟩,-⟩:=cells4 BX.1;go_wp2_with (first|(at_builtin;refine wpList_append_lab rfl _ _ 23 rfl 3 ii (.int .i64 0) 1 8 Tryd.underlying23 ii1 ii2 ii3 ii4 rfl (by decide) o3a 6 _ c.ks.length x4 (by first|rfl|(simp;done)) (P4.step (Step.ofBelow (I:=fun _=>False) o3a (b1 _ _)) id) ⟨w3a.heap.size,0,none⟩ 1 1 [.int .i64 8] rfl rfl ?c4 ?d4 (by decide) ?e4 ?f4 ?_)|go_in);try case c4=>exact new_one _ _ _
         try case d4=>first|rfl|exact one_one _ rfl
         case e4=>unfold maxLen;omega
         case f4=>omega
         intro g4 q4 w4a o4a P4 S4;have S4n:Step (fun k=>k=6) w3a o3a w4a o4a:=(Step.ofBelow o3a (b1 w3a (.cells #[.int .i64 8] 3))).trans S4;have SX:=SX.trans (S4n.mono (J:=I36) (fun k hk=>by subst hk;decide));have BX:=BX.step S4n (by decide)
         replace P1:=P1.step S4n (by decide)
         replace P2:=P2.step S4n (by decide)
         replace P3:=P3.step S4n (by decide)
         clear S4 S4n a0 a1 a2 a3;obtain⟨⟨a0,a1,a2,a3⟩,-⟩:=cells4 BX.1;obtain⟨b1,y1,r1,ob1,c1,f1,R1⟩:=P1.put1 (j:=c.ws.length) (by omega);cases r1;have S1:Step (fun k=>k=3) w4a o4a (w4a.setCell ⟨g1,c.ws.length,none⟩ (.int .u64 1)) o4a:=(Step.refl _ _ _).setCell ⟨g1,c.ws.length,none⟩ (.int .u64 1) ob1
         replace P2:=P2.step S1 (by decide)
         replace P3:=P3.step S1 (by decide)
         replace P4:=P4.step S1 (by decide)
         have SX:=SX.trans (S1.mono (J:=I36) (fun k hk=>by subst hk;decide));clear S1 R1;obtain⟨v1,hv1⟩:∃v1,v1=w4a.setCell ⟨g1,c.ws.length,none⟩ (.int .u64 1):=⟨_,rfl⟩
         have hI1:((c.ws.length:Int)+1)-1=(c.ws.length:Int):=by omega
         try rw[<-hv1] at SX
         try rw[<-hv1] at P2
         try rw[<-hv1] at P3
         try rw[<-hv1] at P4
         have HV1:=Lib.hid hv1;clear hv1;go_upto_region 22 with fail;rw[<-HV1.out];clear HV1;obtain⟨b2,y2,r2,ob2,c2,f2,R2⟩:=P2.put1 (j:=c.cs.length) (by omega);cases r2;have S2:Step (fun k=>k=4) v1 o4a (v1.setCell ⟨g2,c.cs.length,none⟩ (.int .i64 1)) o4a:=(Step.refl _ _ _).setCell ⟨g2,c.cs.length,none⟩ (.int .i64 1) ob2
         replace P3:=P3.step S2 (by decide)
         replace P4:=P4.step S2 (by decide)
         have SX:=SX.trans (S2.mono (J:=I36) (fun k hk=>by subst hk;decide));clear S2 R2;obtain⟨v2,hv2⟩:∃v2,v2=v1.setCell ⟨g2,c.cs.length,none⟩ (.int .i64 1):=⟨_,rfl⟩
         have hI2:((c.cs.length:Int)+1)-1=(c.cs.length:Int):=by omega
         try rw[<-hv2] at SX
         try rw[<-hv2] at P3
         try rw[<-hv2] at P4
         have HV2:=Lib.hid hv2;clear hv2;go_upto_region 23 with fail;rw[<-HV2.out];clear HV2;obtain⟨b3,y3,r3,ob3,c3,f3,R3⟩:=P3.put1 (j:=c.ns.length) (by omega);cases r3;have S3:Step (fun k=>k=5) v2 o4a (v2.setCell ⟨g3,c.ns.length,none⟩ (.string ⟨#[103,114,111,119,110]⟩)) o4a:=(Step.refl _ _ _).setCell ⟨g3,c.ns.length,none⟩ (.string ⟨#[103,114,111,119,110]⟩) ob3
         replace P4:=P4.step S3 (by decide)
         have SX:=SX.trans (S3.mono (J:=I36) (fun k hk=>by subst hk;decide));clear S3 R3;obtain⟨v3,hv3⟩:∃v3,v3=v2.setCell ⟨g3,c.ns.length,none⟩ (.string ⟨#[103,114,111,119,110]⟩):=⟨_,rfl⟩
         have hI3:((c.ns.length:Int)+1)-1=(c.ns.length:Int):=by omega
         try rw[<-hv3] at SX
         try rw[<-hv3] at P4
         have HV3:=Lib.hid hv3;clear hv3;go_upto_region 24 with fail;rw[<-HV3.out];clear HV3;obtain⟨b4,y4,r4,ob4,c4,f4,R4⟩:=P4.put1 (j:=c.ks.length) (by omega);cases r4;have S4:Step (fun k=>k=6) v3 o4a (v3.setCell ⟨g4,c.ks.length,none⟩ (.int .i64 1)) o4a:=(Step.refl _ _ _).setCell ⟨g4,c.ks.length,none⟩ (.int .i64 1) ob4;have SX:=SX.trans (S4.mono (J:=I36) (fun k hk=>by subst hk;decide));clear S4 R4;obtain⟨v4,hv4⟩:∃v4,v4=v3.setCell ⟨g4,c.ks.length,none⟩ (.int .i64 1):=⟨_,rfl⟩
         have hI4:((c.ks.length:Int)+1)-1=(c.ks.length:Int):=by omega
         try rw[<-hv4] at SX
         have HV4:=Lib.hid hv4;clear hv4;go_wp2
         go_end0
         exact⟨rfl,_,HSO.out.trans (by rw[<-HV4.out];exact SX)⟩
theorem dec_one (s:List UInt8):∃(c:Cd) (er:Int),∀ w z w',DecOut s w z w'->Below w.heap.size w w'/\∃p,z=.returned (.tuple #[cdV p c,.int .i64 er])/\CdW w' p c/\∃o',(∀ k,k<w.heap.size->o' k=0)/\CdR w' o' p c:=by
 by_cases hx:∃c,IsE s c
 ·obtain⟨c,hc⟩:=hx;exact⟨c,0,fun w z w' h=>h.yes hc⟩
 ·refine⟨⟨[],[],[],[]⟩,180,fun w z w' h=>?_⟩;obtain⟨B,⟨p,d,h1,h2,_⟩|⟨h1,_⟩⟩:=h
  ·exact absurd ⟨d,h2⟩ hx
  ·have R:CdR w' (fun _=>0) ⟨none,0,none,0,none,0,none,0⟩ ⟨[],[],[],[]⟩:=⟨Row.nil _ _ _ _ _,Row.nil _ _ _ _ _,Row.nil _ _ _ _ _,Row.nil _ _ _ _ _,by decide,by decide,by decide,by decide⟩
   exact⟨B,⟨none,0,none,0,none,0,none,0⟩,h1,R.cdw ⟨by simp,by simp,by simp,by simp⟩,fun _=>0,fun _ _=>rfl,R⟩
theorem codeReads_walk (s:ByteArray)(w:World)(hF:Fx w)(hs:s.size<=maxLen) :
  Calls Tryd.prog 5 #[.string s] w fun e w'=>e=.returned (.bool true)/\Below w.heap.size w w':=by
 obtain⟨c,er,HU⟩:=dec_one s.data.toList;have hs2:s.size<=9223372036854775807:=by unfold maxLen at hs;omega
 obtain⟨g,hg⟩:∃g,g=w.heap.size:=⟨_,rfl⟩
 have HA:=awake_c w hF;have HG:=Lib.hid hg;go_enter Tryd.func5,Tryd.ntmps5;go_wp2_with fail;refine HA.mono ?_;rintro e w1 ⟨rfl,B1⟩;have F1:=hF.below B1;have BB1:Below g w w1:=by rw[hg];exact B1
 have L1:g<=w1.heap.size:=by rw[hg];exact B1.size
 have HR:=rdecode_c s w1 hs2;clear HA B1 hF hg;go_wp2_with fail;refine HR.mono ?_;intro e w2 hD;obtain⟨B2,p,rfl,C2,-⟩:=HU _ _ _ hD;have F2:=F1.below B2;have BB2:=bdt BB1 B2 L1;have L2:=Nat.le_trans L1 B2.size;clear HR hD F1 BB1 B2 L1;obtain⟨w3,hw3⟩:∃w3,w3=w2.alloc (.cells (cdA p c) 26):=⟨_,rfl⟩
 obtain⟨g3,hg3⟩:∃g3,g3=w2.heap.size:=⟨_,rfl⟩
 have B3:Below w2.heap.size w2 w3:=by rw[hw3];exact b1 _ _
 have K3:bx4 p c w3 g3:=by rw[hw3,hg3];exact bx4_new p c w2
 have G3:g3<w3.heap.size:=by rw[hw3,hg3];simp
 have C3:=C2.below B3;have F3:=F2.below B3;have BB3:=bdt BB2 B3 L2;have L3:=Nat.le_trans L2 B3.size;have HG3:=Lib.hid hg3;clear B3 C2 F2 BB2 hg3 L2;go_upto_region 3 with fail;rw[<-hw3,<-HG3.out];clear hw3;have K:∀ {wr:World},Below w3.heap.size w3 wr->bx4 p c wr g3/\CdW wr p c/\Fx wr/\Below g w wr/\w3.heap.size<=wr.heap.size:=fun {wr} B=>⟨bx4_below K3 G3 B,C3.below B,F3.below B,bdt BB3 B L3,B.size⟩;have Bz:Below w3.heap.size w3 w3:=Below.refl _ _;clear K3 C3 F3;go_wp2_with fail;go_loopw [6] (fun v wr=>∃k:Nat,v=.int .i64 (k:Nat)/\k<=2/\Below w3.heap.size w3 wr) (fun v _=>2-(intOf v).toNat)
 case atStart=>exact⟨0,by go_num,by omega,Bz⟩
 case round =>
  obtain⟨k,rfl,hk,BR⟩:=hrel;obtain⟨KR,CR,FR,BBR,LR⟩:=K BR;by_cases hlt:k<2
  ·have hkI:(k:Int)<2:=by omega
   have HD:=decode_c s wr FR hs2;go_wp2_with fail;refine HD.mono ?_;intro e w4 hD;obtain⟨B4,q,rfl,C4,o4,ho4,R4⟩:=HU _ _ _ hD;obtain⟨w5,hw5⟩:∃w5,w5=w4.alloc (.cells (cdA q c) 26):=⟨_,rfl⟩
   obtain⟨g5,hg5⟩:∃g5,g5=w4.heap.size:=⟨_,rfl⟩
   have B5:Below w4.heap.size w4 w5:=by rw[hw5];exact b1 _ _
   have K5:bx4 q c w5 g5:=by rw[hw5,hg5];exact bx4_new q c w4
   have G5:g5<w5.heap.size:=by rw[hw5,hg5];simp
   have B45:Below wr.heap.size wr w5:=bdt B4 B5 B4.size;have KR5:=bx4_below KR (Nat.lt_of_lt_of_le G3 LR) B45;have CP5:=CR.below B45;have CQ5:=C4.below B5;have R5:=R4.step (Step.ofBelow (I:=fun _=>False) o4 B5) id id id id;have HS:=same_yes q p c w5 CQ5 CP5;have HG5:=Lib.hid hg5;clear HD hD KR CR FR C4 R4 B5 hg5 CP5 CQ5;go_upto_region 7 with fail;rw[<-hw5,<-HG5.out];clear hw5;obtain⟨j0,j1,j2,j3⟩:=K5;obtain⟨k0,k1,k2,k3⟩:=KR5;go_upto_region 8 with (first|(go_at_call 21;refine HS.mono ?_;rintro e w6 ⟨rfl,B6⟩))
   have K6:=bx4_below (p:=q) (c:=c) ⟨j0,j1,j2,j3⟩ G5 B6;have R6:=R5.step (Step.ofBelow (I:=fun _=>False) o4 B6) id id id id;have B46:Below wr.heap.size wr w6:=bdt B45 B6 B45.size;have HO:=over_c q c w6 o4 R6;have HB:Hid (∀ w7 o7,Step I36 w6 o4 w7 o7->Below w3.heap.size w3 w7):=fun w7 o7 S=>by
    have e:Below wr.heap.size w6 w7:=⟨S.os,S.tape,S.output,S.size,fun k hk=>S.block k (Nat.lt_of_lt_of_le hk B46.size) (by rw[ho4 k hk];decide)⟩
    exact bdt BR (B46.trans e) LR
   clear HS B6 R5 R6 B45 B46 j0 j1 j2 j3 k0 k1 k2 k3 B4 BR;obtain⟨k0,k1,k2,k3⟩:=K6;go_wp2_with (first|(go_at_call 22;refine HO.mono ?_;rintro e w7 ⟨rfl,o7,S7⟩));go_roundw
   case rel=>(try ((repeat apply Exists.intro);refine⟨?_,rfl⟩));exact⟨k+1,by go_num,by omega,HB.out _ _ S7⟩
   case measure=>simp[intOf];omega
  ·have hkI:¬(k:Int)<2:=by omega
   go_wp2;go_ret;exact⟨rfl,by rw[<-HG.out];exact BBR⟩
theorem ownK:ownKnob Tryd.prog.godebug=none:=by kernel_rfl
theorem cellsInt:Tryd.prog.cellsOf 3=1:=by kernel_rfl
theorem gWd : Tryd.prog.globalNamed "isthmus/lex.words" = some 1 := by kernel_rfl
theorem gWdType:(Tryd.prog.globals[1]?).map (·.type)=some 97:=by kernel_rfl
theorem cellsWd:Tryd.prog.cellsOf 97=27:=by kernel_rfl
theorem cellsStr:Tryd.prog.cellsOf 9=1:=by kernel_rfl
def wordsD:List (DataW Unit):=(List.range 27).map fun j=>.lit (.string (wd j).data.toList)
theorem wordsD_eq:(Rows.laid_isthmus_lex_words:DataW Unit)=.agg wordsD:=by rfl
theorem wordsA_list:wordsA.toList=(List.range 27).map fun j=>Value.string (wd j):=by rfl
theorem words_of_cells {W:World}{fuel:Nat}{cs:List Value}{p:List MemPlace}(h:DataW.trod (fun _=>()) Tryd.prog W 0 (fun _=>true) false fuel 97 cs=some (.agg wordsD,p)):cs=wordsA.toList:=by
 obtain⟨xs,m,_,hx,hl,hlen,hf⟩:=DataW.trod_array Tryd.underlying97 h;rw[cellsWd] at hl;simp only[cellsStr,Nat.mul_one] at hf;simp only[Prod.mk.injEq,DataW.agg.injEq] at hx;rw[wordsA_list];apply List.ext_getElem?;intro i;by_cases hi:i<27
 ·have hfi:=hf i hi;have hxi:xs[i]?=some xs[i]:=List.getElem?_eq_getElem (by omega);rw[hxi] at hfi;obtain⟨s,h1,h2⟩:=DataW.trod_string Tryd.underlying9 hfi;have hc:cs[i]?=some (.string s):=by
   have:=congrArg (·[0]?) h1
   simpa [List.getElem?_take,List.getElem?_drop] using this
  have hd:(xs.map (·.1))[i]?=some (.lit (.string s.data.toList)):=by rw[List.getElem?_map,hxi,h2.1];rfl
  rw[<-hx.1] at hd;unfold wordsD at hd;rw[List.getElem?_map,List.getElem?_range hi] at hd;simp only[Option.map_some,Option.some.injEq,DataW.lit.injEq,Lit.string.injEq] at hd;have hs:=bytes_eq.1 hd;rw[hc,List.getElem?_map,List.getElem?_range hi,<-hs];rfl
 ·rw[List.getElem?_eq_none (by omega),List.getElem?_eq_none (by simp;omega)]
theorem wd_of_laid {W : World} {r : List (String × DataW Unit)} (h : laidMet Tryd.prog (("isthmus/lex.words", Rows.laid_isthmus_lex_words) :: r) W) : Wd W := by
 rw[wordsD_eq] at h;obtain⟨ps,⟨g',t',cs,fuel,p,q,hg',ht',hvar,hd,_,_⟩,_⟩:=h;obtain rfl:=Option.some.inj (gWd.symm.trans hg');obtain rfl:=Option.some.inj (gWdType.symm.trans ht');have hcs:=words_of_cells hd;have hcs':cs=wordsA:=Array.toList_inj.1 hcs;subst hcs';simp only[World.var?,gWd,Option.bind_some] at hvar;split at hvar
 ·rename_i c t fr hh
  cases hvar;exact⟨t,fr,hh⟩
 ·cases hvar
def layCells (cs:Array Value):Obj->Obj
 | .cells _ t frozen=>.cells cs t frozen
 | o=>o
theorem tab_of_laid2 {W : World} {r : List (String × DataW Unit)} (h : laidMet Tryd.prog (("isthmus/pack.fields", Rows.laid_isthmus_pack_fields) :: r) W) : Tab W := by
 obtain⟨ps,⟨g',t',cs,fuel,p,q,hg',ht',hvar,hd,_,_⟩,_⟩:=h;obtain rfl:=Option.some.inj (gTab.symm.trans hg');obtain rfl:=Option.some.inj (gTabType.symm.trans ht');obtain⟨xs,m,_,hx,hl,hlen,hf⟩:=DataW.trod_array Tryd.underlying101 hd;rw[cellsTab] at hl;simp only[cellsField] at hf
 match xs,hlen with
 | [x0,x1,x2],_ =>
  have f0:=hf 0 (by omega);have f1:=hf 1 (by omega);have f2:=hf 2 (by omega);simp only[Rows.laid_isthmus_pack_fields,List.map_cons,List.map_nil,Prod.mk.injEq,DataW.agg.injEq,List.cons.injEq,and_true] at hx;obtain⟨⟨e0,e1,e2⟩,_⟩:=hx;obtain⟨d0,p0⟩:=x0;obtain⟨d1,p1⟩:=x1;obtain⟨d2,p2⟩:=x2;simp only at e0 e1 e2;subst e0 e1 e2;have g0:=field_cells f0;have g1:=field_cells f1;have g2:=field_cells f2;obtain⟨l⟩:=cs
  match l,hl with
  | [v0,v1,v2,v3,v4,v5],_ =>
   simp at g0 g1 g2;obtain⟨rfl,rfl⟩:=g0;obtain⟨rfl,rfl⟩:=g1;obtain⟨rfl,rfl⟩:=g2;have hc:=fun i=>World.var?_cell gTab hvar i;have c0:=hc 0;have c1:=hc 1;have c2:=hc 2;have c3:=hc 3;have c4:=hc 4;have c5:=hc 5;simp at c0 c1 c2 c3 c4 c5;refine⟨c0,c1,c2,c3,c4,c5,?_⟩;by_cases hs:2<W.heap.size
   ·exact hs
   ·exfalso
    have:W.heap[2]?=none:=Array.getElem?_eq_none (by omega)
    simp[World.cell?,this] at c0
theorem gRul : Tryd.prog.globalNamed "isthmus/code.rules" = some 0 := by kernel_rfl
theorem gRulType:(Tryd.prog.globals[0]?).map (·.type)=some 95:=by kernel_rfl
theorem cellsRul:Tryd.prog.cellsOf 95=56:=by kernel_rfl
theorem cellsRu1:Tryd.prog.cellsOf 94=2:=by kernel_rfl
def rulesD:List (DataW Unit):=(List.range 28).map fun j=>.agg [.lit (.int .i64 (rulA.getD j 0:Nat)),.lit (.int .i64 (rulB.getD j 0:Nat))]
theorem rulesD_eq:(Rows.laid_isthmus_code_rules:DataW Unit)=.agg rulesD:=by rfl
theorem rule_cells {W:World}{m:Nat}{l:List Value}{a b:Int}{p:List MemPlace}
  (h:DataW.trod (fun _=>()) Tryd.prog W 0 (fun _=>true) false m 94 l=some (.agg [.lit (.int .i64 a),.lit (.int .i64 b)],p)):l=[.int .i64 a,.int .i64 b]:=by
 obtain⟨y0,y1,n,hx,hl,h0,h1⟩:=trod_struct2 Tryd.underlying94 h;simp only[Prod.mk.injEq,DataW.agg.injEq,List.cons.injEq,and_true] at hx;obtain⟨⟨e0,e1⟩,_⟩:=hx;obtain⟨z0,c0,r0,_⟩:=DataW.trod_int Tryd.underlying3 h0;obtain⟨z1,c1,r1,_⟩:=DataW.trod_int Tryd.underlying3 h1;subst r0 r1;simp only[DataW.lit.injEq,Lit.int.injEq,true_and] at e0 e1;subst e0 e1;rw[cellsRu1] at hl;simp only[cellsInt] at c0 c1
 match l,hl with
 | [v0,v1],_ =>
  simp at c0 c1;rw[c0,c1]
theorem rul_of_laid {W : World} {r : List (String × DataW Unit)} (h : laidMet Tryd.prog (("isthmus/code.rules", Rows.laid_isthmus_code_rules) :: r) W) : Rul W := by
 rw[rulesD_eq] at h;obtain⟨ps,⟨g',t',cs,fuel,p,q,hg',ht',hvar,hd,_,_⟩,_⟩:=h;obtain rfl:=Option.some.inj (gRul.symm.trans hg');obtain rfl:=Option.some.inj (gRulType.symm.trans ht');obtain⟨xs,m,_,hx,hl,hlen,hf⟩:=DataW.trod_array Tryd.underlying95 hd;rw[cellsRul] at hl;simp only[cellsRu1] at hf;simp only[Prod.mk.injEq,DataW.agg.injEq] at hx;have hc:=fun i=>World.var?_cell gRul hvar i;have key:∀ o,o<28->cs[o*2]?=some (.int .i64 (rulA.getD o 0:Nat))/\cs[o*2+1]?=some (.int .i64 (rulB.getD o 0:Nat)):=fun o ho=>by
  have hfi:=hf o ho;have hxi:xs[o]?=some xs[o]:=List.getElem?_eq_getElem (by omega);rw[hxi] at hfi;have hd:(xs.map (·.1))[o]?=some (xs[o].1):=by rw[List.getElem?_map,hxi];rfl
  rw[<-hx.1] at hd;unfold rulesD at hd;rw[List.getElem?_map,List.getElem?_range ho] at hd;simp only[Option.map_some,Option.some.injEq] at hd;have g:=rule_cells (p:=xs[o].2) (hfi.trans (congrArg some (Prod.ext hd.symm rfl)));have h0:((cs.toList.drop (o*2)).take 2)[0]?=some (.int .i64 (rulA.getD o 0:Nat)):=by rw[g];rfl
  have h1:((cs.toList.drop (o*2)).take 2)[1]?=some (.int .i64 (rulB.getD o 0:Nat)):=by rw[g];rfl
  simp only[List.getElem?_take,List.getElem?_drop] at h0 h1;exact⟨by simpa using h0,by simpa using h1⟩
 refine⟨?_,fun o ho=>⟨(hc (o*2)).trans (key o ho).1,(hc (o*2+1)).trans (key o ho).2⟩⟩;by_cases hs:0<W.heap.size
 ·exact hs
 ·exfalso;have h0:=(hc (0*2)).trans (key 0 (by omega)).1
  have:W.heap[0]?=none:=Array.getElem?_eq_none (by omega)
  simp[World.cell?,this] at h0
theorem fx_of_laid {W : World} (h : laidMet Tryd.prog [("isthmus/pack.fields", Rows.laid_isthmus_pack_fields), ("isthmus/lex.words", Rows.laid_isthmus_lex_words), ("isthmus/code.rules", Rows.laid_isthmus_code_rules)] W) : Fx W := ⟨tab_of_laid2 h, rul_of_laid h.tail.tail, wd_of_laid h.tail⟩
def rulesA:Array Value:=((List.range 56).map fun j=>if j % 2=0 then Value.int .i64 (rulA.getD (j / 2) 0:Nat) else .int .i64 (rulB.getD (j / 2) 0:Nat)).toArray
def laidWorld (P:Program)(os:Os):World :=
 let w0:=World.holding P os ⟨#[],#[],[]⟩
 { w0 with heap:=((w0.heap.modify 2 (layCells #[.int .u64 56,.int .u64 255,.int .u64 28,.int .u64 268435455,.int .u64 0,.int .u64 268435455])).modify 1 (layCells wordsA)).modify 0 (layCells rulesA) }
end Go.Proofs.YtjjhcbmhdkobkaaDoor
