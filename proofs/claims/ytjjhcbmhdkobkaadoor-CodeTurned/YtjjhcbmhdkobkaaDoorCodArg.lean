import Derived.Test.YtjjhcbmhdkobkaaDoorDrB
import Derived.SizedLaws
import Derived.ShutString
import Derived.Stop.LaidErr
import Derived.Deep.DeepHandedRow
import Derived.Deep.Slices
import Derived.SliceStrings
set_option maxRecDepth 100000
set_option maxHeartbeats 8000000
namespace Go.Proofs.YtjjhcbmhdkobkaaDoor
open Go.ChangeShapes Go.WideShapes Go.ChangeAt Go.RowKit
set_option linter.unusedVariables false
set_option linter.unusedSimpArgs false
abbrev I36:Nat->Prop:=fun k=>3<=k/\k<=6
theorem Row.put1 {w:World}{o:Nat->Nat}{i:Nat}{e:TypeId}{ao:Option Addr}{n cap:Nat}{xs:List Value}(h:Row w o i e 1 (.slice ao n cap) n xs){j:Nat}(hj:j<n) :
  ∃b x,ao=some ⟨b,0,none⟩/\o b=i/\w.cell? ⟨b,j,none⟩=some x/\w.frozen? ⟨b,j,none⟩=false/\∀ u,Row (w.setCell ⟨b,j,none⟩ u) o i e 1 (.slice ao n cap) n (xs.set j u):=by
 obtain⟨g,c,hv,ho,-,-,-,hc,hf⟩:=h.pos (by omega);simp only[Value.slice.injEq,true_and] at hv;obtain⟨rfl,rfl⟩:=hv;have hl:=h.len;have hjx:j<xs.length:=by omega
 exact⟨g,xs[j],rfl,ho,by rw[hc j (by omega)];exact List.getElem?_eq_getElem hjx,hf j,fun u=>h.store j u⟩
structure Ovs (w0:World)(o0:Nat->Nat)(g:Nat)(p:Pl)(c:Cd)(w:World)(o:Nat->Nat):Prop where
 bx:Blk w o 9 g (.cells (cdA p c) 26)
 ws:∃xs,Row w o 3 33 1 (.slice p.aw c.ws.length p.cw) c.ws.length xs
 cs:∃xs,Row w o 4 3 1 (.slice p.ac c.cs.length p.cc) c.cs.length xs
 ns:∃xs,Row w o 5 9 1 (.slice p.an c.ns.length p.cn) c.ns.length xs
 ks:∃xs,Row w o 6 3 1 (.slice p.ak c.ks.length p.ck) c.ks.length xs
 sp:Step I36 w0 o0 w o
theorem Ovs.ws1 {w0 w:World}{o0 o:Nat->Nat}{g:Nat}{p:Pl}{c:Cd}(h:Ovs w0 o0 g p c w o){j:Nat}(hj:j<c.ws.length):∃b x,p.aw=some ⟨b,0,none⟩/\w.cell? ⟨b,j,none⟩=some x/\w.frozen? ⟨b,j,none⟩=false/\∀ u,Ovs w0 o0 g p c (w.setCell ⟨b,j,none⟩ u) o:=by
 obtain⟨xs,hx⟩:=h.ws;obtain⟨b,x,e1,e2,e3,e4,hr⟩:=hx.put1 hj;have S:∀ u,Step (fun k=>k=3) w o (w.setCell ⟨b,j,none⟩ u) o:=fun u=>(Step.refl _ w o).setCell ⟨b,j,none⟩ u e2;exact⟨b,x,e1,e3,e4,fun u=>⟨h.bx.step (S u) (by decide),⟨_,hr u⟩,(by obtain⟨ys,hy⟩:=h.cs;exact⟨ys,hy.step (S u) (by decide)⟩),(by obtain⟨ys,hy⟩:=h.ns;exact⟨ys,hy.step (S u) (by decide)⟩),(by obtain⟨ys,hy⟩:=h.ks;exact⟨ys,hy.step (S u) (by decide)⟩),h.sp.trans ((S u).mono (fun k hk=>by subst hk;decide))⟩⟩
theorem Ovs.cs1 {w0 w:World}{o0 o:Nat->Nat}{g:Nat}{p:Pl}{c:Cd}(h:Ovs w0 o0 g p c w o){j:Nat}(hj:j<c.cs.length):∃b x,p.ac=some ⟨b,0,none⟩/\w.cell? ⟨b,j,none⟩=some x/\w.frozen? ⟨b,j,none⟩=false/\∀ u,Ovs w0 o0 g p c (w.setCell ⟨b,j,none⟩ u) o:=by
 obtain⟨xs,hx⟩:=h.cs;obtain⟨b,x,e1,e2,e3,e4,hr⟩:=hx.put1 hj;have S:∀ u,Step (fun k=>k=4) w o (w.setCell ⟨b,j,none⟩ u) o:=fun u=>(Step.refl _ w o).setCell ⟨b,j,none⟩ u e2;exact⟨b,x,e1,e3,e4,fun u=>⟨h.bx.step (S u) (by decide),(by obtain⟨ys,hy⟩:=h.ws;exact⟨ys,hy.step (S u) (by decide)⟩),⟨_,hr u⟩,(by obtain⟨ys,hy⟩:=h.ns;exact⟨ys,hy.step (S u) (by decide)⟩),(by obtain⟨ys,hy⟩:=h.ks;exact⟨ys,hy.step (S u) (by decide)⟩),h.sp.trans ((S u).mono (fun k hk=>by subst hk;decide))⟩⟩
theorem Ovs.ns1 {w0 w:World}{o0 o:Nat->Nat}{g:Nat}{p:Pl}{c:Cd}(h:Ovs w0 o0 g p c w o){j:Nat}(hj:j<c.ns.length):∃b x,p.an=some ⟨b,0,none⟩/\w.cell? ⟨b,j,none⟩=some x/\w.frozen? ⟨b,j,none⟩=false/\∀ u,Ovs w0 o0 g p c (w.setCell ⟨b,j,none⟩ u) o:=by
 obtain⟨xs,hx⟩:=h.ns;obtain⟨b,x,e1,e2,e3,e4,hr⟩:=hx.put1 hj;have S:∀ u,Step (fun k=>k=5) w o (w.setCell ⟨b,j,none⟩ u) o:=fun u=>(Step.refl _ w o).setCell ⟨b,j,none⟩ u e2;exact⟨b,x,e1,e3,e4,fun u=>⟨h.bx.step (S u) (by decide),(by obtain⟨ys,hy⟩:=h.ws;exact⟨ys,hy.step (S u) (by decide)⟩),(by obtain⟨ys,hy⟩:=h.cs;exact⟨ys,hy.step (S u) (by decide)⟩),⟨_,hr u⟩,(by obtain⟨ys,hy⟩:=h.ks;exact⟨ys,hy.step (S u) (by decide)⟩),h.sp.trans ((S u).mono (fun k hk=>by subst hk;decide))⟩⟩
theorem Ovs.ks1 {w0 w:World}{o0 o:Nat->Nat}{g:Nat}{p:Pl}{c:Cd}(h:Ovs w0 o0 g p c w o){j:Nat}(hj:j<c.ks.length):∃b x,p.ak=some ⟨b,0,none⟩/\w.cell? ⟨b,j,none⟩=some x/\w.frozen? ⟨b,j,none⟩=false/\∀ u,Ovs w0 o0 g p c (w.setCell ⟨b,j,none⟩ u) o:=by
 obtain⟨xs,hx⟩:=h.ks;obtain⟨b,x,e1,e2,e3,e4,hr⟩:=hx.put1 hj;have S:∀ u,Step (fun k=>k=6) w o (w.setCell ⟨b,j,none⟩ u) o:=fun u=>(Step.refl _ w o).setCell ⟨b,j,none⟩ u e2;exact⟨b,x,e1,e3,e4,fun u=>⟨h.bx.step (S u) (by decide),(by obtain⟨ys,hy⟩:=h.ws;exact⟨ys,hy.step (S u) (by decide)⟩),(by obtain⟨ys,hy⟩:=h.cs;exact⟨ys,hy.step (S u) (by decide)⟩),(by obtain⟨ys,hy⟩:=h.ns;exact⟨ys,hy.step (S u) (by decide)⟩),⟨_,hr u⟩,h.sp.trans ((S u).mono (fun k hk=>by subst hk;decide))⟩⟩
theorem over_c (p:Pl)(c:Cd)(w:World)(o:Nat->Nat)(h:CdR w o p c) :
  Calls Tryd.prog 22 #[cdV p c] w fun e w'=>e=.returned (.tuple #[])/\∃o',Step I36 w o w' o':=by
 obtain⟨iw,iw1,iw2,iw3,iw4⟩:=info_parts infoW;obtain⟨ii,ii1,ii2,ii3,ii4⟩:=info_parts infoI;obtain⟨is,is1,is2,is3,is4⟩:=info_parts infoS;obtain⟨g,hg⟩:∃g,g=w.heap.size:=⟨_,rfl⟩
 obtain⟨w2,hw2⟩:∃w2,w2=w.alloc (.cells (cdA p c) 26):=⟨_,rfl⟩
 have SN:∀ {I:Nat->Prop},Step I w o w2 (newLab w o 9):=fun {I}=>Step.newB o 9 (by rw[hw2];exact b1 _ _);have G2:Blk w2 (newLab w o 9) 9 g (.cells (cdA p c) 26):=by rw[hw2,hg];exact⟨heap_alloc_new _ _,newLab_new (Nat.le_refl _)⟩
 have h2:=h.step (SN (I:=fun _=>False)) id id id id;have Z0:Ovs w2 (newLab w o 9) g p c w2 (newLab w o 9):=⟨G2,⟨_,h2.ws⟩,⟨_,h2.cs⟩,⟨_,h2.ns⟩,⟨_,h2.ks⟩,Step.refl _ _ _⟩
 have SO:Step I36 w o w2 (newLab w o 9):=SN;have l1:=h.lw;have l2:=h.lc;have l3:=h.ln;have l4:=h.lk;generalize newLab w o 9=o2 at *;have HG:=Lib.hid hg;have HSO:=Lib.hid SO;clear SN SO G2 h h2 hg;obtain⟨⟨a0,a1,a2,a3⟩,-⟩:=cells4 Z0.bx.1;go_enter Tryd.func22,Tryd.ntmps22;go_wp2_with fail;rw[<-hw2,<-HG.out];clear hw2;go_wp2_with fail;go_loopw [2] (fun v wr=>∃k:Nat,v=.int .i64 (k:Nat)/\k<=c.ws.length/\Ovs w2 o2 g p c wr o2) (fun v _=>c.ws.length-(intOf v).toNat)
 case atStart=>exact⟨0,by go_num,by omega,Z0⟩
 case round =>
  obtain⟨k,rfl,hk,Z1⟩:=hrel;clear a0 a1 a2 a3;obtain⟨⟨a0,a1,a2,a3⟩,-⟩:=cells4 Z1.bx.1;by_cases hlt:k<c.ws.length
  ·have hkI:(k:Int)<(c.ws.length:Int):=by omega
   obtain⟨b,x,e1,e2,e3,HZ⟩:=Z1.ws1 hlt;have HZ2:=Lib.hid (HZ (.int .u64 9));rw[e1] at a0;clear HZ e1;go_wp2;go_roundw
   case rel=>(try ((repeat apply Exists.intro);refine⟨?_,rfl⟩));exact⟨k+1,by go_num,by omega,HZ2.out⟩
   case measure=>simp[intOf];omega
  ·have hkI:¬(k:Int)<(c.ws.length:Int):=by omega
   clear hlt hk;go_wp2_with fail;go_loopw [3] (fun v wr=>∃k:Nat,v=.int .i64 (k:Nat)/\k<=c.cs.length/\Ovs w2 o2 g p c wr o2) (fun v _=>c.cs.length-(intOf v).toNat)
   case atStart=>exact⟨0,by go_num,by omega,Z1⟩
   case round =>
    obtain⟨k,rfl,hk,Z2⟩:=hrel;clear a0 a1 a2 a3;obtain⟨⟨a0,a1,a2,a3⟩,-⟩:=cells4 Z2.bx.1;by_cases hlt:k<c.cs.length
    ·have hkI:(k:Int)<(c.cs.length:Int):=by omega
     obtain⟨b,x,e1,e2,e3,HZ⟩:=Z2.cs1 hlt;have HZ2:=Lib.hid (HZ (.int .i64 (-9)));rw[e1] at a1;clear HZ e1;go_wp2;go_roundw
     case rel=>(try ((repeat apply Exists.intro);refine⟨?_,rfl⟩));exact⟨k+1,by go_num,by omega,HZ2.out⟩
     case measure=>simp[intOf];omega
    ·have hkI:¬(k:Int)<(c.cs.length:Int):=by omega
     clear hlt hk;go_wp2_with fail;go_loopw [4] (fun v wr=>∃k:Nat,v=.int .i64 (k:Nat)/\k<=c.ns.length/\Ovs w2 o2 g p c wr o2) (fun v _=>c.ns.length-(intOf v).toNat)
     case atStart=>exact⟨0,by go_num,by omega,Z2⟩
     case round =>
      obtain⟨k,rfl,hk,Z3⟩:=hrel;clear a0 a1 a2 a3;obtain⟨⟨a0,a1,a2,a3⟩,-⟩:=cells4 Z3.bx.1;by_cases hlt:k<c.ns.length
      ·have hkI:(k:Int)<(c.ns.length:Int):=by omega
       obtain⟨b,x,e1,e2,e3,HZ⟩:=Z3.ns1 hlt;have HZ2:=Lib.hid (HZ (.string ⟨#[111,118,101,114]⟩));rw[e1] at a2;clear HZ e1;go_wp2;go_roundw
       case rel=>(try ((repeat apply Exists.intro);refine⟨?_,rfl⟩));exact⟨k+1,by go_num,by omega,HZ2.out⟩
       case measure=>simp[intOf];omega
      ·have hkI:¬(k:Int)<(c.ns.length:Int):=by omega
       clear hlt hk;go_wp2_with fail;go_loopw [5] (fun v wr=>∃k:Nat,v=.int .i64 (k:Nat)/\k<=c.ks.length/\Ovs w2 o2 g p c wr o2) (fun v _=>c.ks.length-(intOf v).toNat)
       case atStart=>exact⟨0,by go_num,by omega,Z3⟩
       case round =>
        obtain⟨k,rfl,hk,Z4⟩:=hrel;clear a0 a1 a2 a3;obtain⟨⟨a0,a1,a2,a3⟩,-⟩:=cells4 Z4.bx.1;by_cases hlt:k<c.ks.length
        ·have hkI:(k:Int)<(c.ks.length:Int):=by omega
         obtain⟨b,x,e1,e2,e3,HZ⟩:=Z4.ks1 hlt;have HZ2:=Lib.hid (HZ (.int .i64 (-9)));rw[e1] at a3;clear HZ e1;go_wp2;go_roundw
         case rel=>(try ((repeat apply Exists.intro);refine⟨?_,rfl⟩));exact⟨k+1,by go_num,by omega,HZ2.out⟩
         case measure=>simp[intOf];omega
        ·have hkI:¬(k:Int)<(c.ks.length:Int):=by omega
         clear hlt hk;obtain⟨x1,P1⟩:=Z4.ws;obtain⟨x2,P2⟩:=Z4.cs;obtain⟨x3,P3⟩:=Z4.ns;obtain⟨x4,P4⟩:=Z4.ks;have SX:=Z4.sp;have BX:=Z4.bx;clear Z4;go_wp2_with (first|(at_builtin;refine wpList_append_lab rfl _ _ 22 rfl 33 iw (.int .u64 0) 1 8 Tryd.underlying22 iw1 iw2 iw3 iw4 rfl (by decide) o2 3 _ c.ws.length x1 (by first|rfl|(simp;done)) (P1.step (Step.ofBelow (I:=fun _=>False) o2 (b1 _ _)) id) ⟨wr.heap.size,0,none⟩ 1 1 [.int .u64 8] rfl rfl ?c1 ?d1 (by decide) ?e1 ?f1 ?_)|go_in);try case c1=>exact new_one _ _ _
         try case d1=>first|rfl|exact one_one _ rfl
         case e1=>unfold maxLen;omega
         case f1=>omega
         intro g1 q1 w1a o1a P1 S1;have S1n:Step (fun k=>k=3) wr o2 w1a o1a:=(Step.ofBelow o2 (b1 wr (.cells #[.int .u64 8] 33))).trans S1;have SX:=SX.trans (S1n.mono (J:=I36) (fun k hk=>by subst hk;decide));have BX:=BX.step S1n (by decide)
         replace P2:=P2.step S1n (by decide)
         replace P3:=P3.step S1n (by decide)
         replace P4:=P4.step S1n (by decide)
         clear S1 S1n a0 a1 a2 a3;obtain⟨⟨a0,a1,a2,a3⟩,-⟩:=cells4 BX.1;go_wp2_with (first|(at_builtin;refine wpList_append_lab rfl _ _ 23 rfl 3 ii (.int .i64 0) 1 8 Tryd.underlying23 ii1 ii2 ii3 ii4 rfl (by decide) o1a 4 _ c.cs.length x2 (by first|rfl|(simp;done)) (P2.step (Step.ofBelow (I:=fun _=>False) o1a (b1 _ _)) id) ⟨w1a.heap.size,0,none⟩ 1 1 [.int .i64 8] rfl rfl ?c2 ?d2 (by decide) ?e2 ?f2 ?_)|go_in);try case c2=>exact new_one _ _ _
         try case d2=>first|rfl|exact one_one _ rfl
         case e2=>unfold maxLen;omega
         case f2=>omega
         intro g2 q2 w2a o2a P2 S2;have S2n:Step (fun k=>k=4) w1a o1a w2a o2a:=(Step.ofBelow o1a (b1 w1a (.cells #[.int .i64 8] 3))).trans S2;have SX:=SX.trans (S2n.mono (J:=I36) (fun k hk=>by subst hk;decide));have BX:=BX.step S2n (by decide)
         replace P1:=P1.step S2n (by decide)
         replace P3:=P3.step S2n (by decide)
         replace P4:=P4.step S2n (by decide)
         clear S2 S2n a0 a1 a2 a3;obtain⟨⟨a0,a1,a2,a3⟩,-⟩:=cells4 BX.1;go_wp2_with (first|(at_builtin;refine wpList_append_lab rfl _ _ 24 rfl 9 is (.string ⟨#[]⟩) 1 16 Tryd.underlying24 is1 is2 is3 is4 rfl (by decide) o2a 5 _ c.ns.length x3 (by first|rfl|(simp;done)) (P3.step (Step.ofBelow (I:=fun _=>False) o2a (b1 _ _)) id) ⟨w2a.heap.size,0,none⟩ 1 1 [.string ⟨#[109,111,114,101]⟩] rfl rfl ?c3 ?d3 (by decide) ?e3 ?f3 ?_)|go_in);try case c3=>exact new_one _ _ _
         try case d3=>first|rfl|exact one_one _ rfl
         case e3=>unfold maxLen;omega
         case f3=>omega
         intro g3 q3 w3a o3a P3 S3;have S3n:Step (fun k=>k=5) w2a o2a w3a o3a:=(Step.ofBelow o2a (b1 w2a (.cells #[.string ⟨#[109,111,114,101]⟩] 9))).trans S3;have SX:=SX.trans (S3n.mono (J:=I36) (fun k hk=>by subst hk;decide));have BX:=BX.step S3n (by decide)
         replace P1:=P1.step S3n (by decide)
         replace P2:=P2.step S3n (by decide)
         replace P4:=P4.step S3n (by decide)
         clear S3 S3n a0 a1 a2 a3;obtain⟨⟨a0,a1,a2,a3⟩,-⟩:=cells4 BX.1;go_wp2_with (first|(at_builtin;refine wpList_append_lab rfl _ _ 23 rfl 3 ii (.int .i64 0) 1 8 Tryd.underlying23 ii1 ii2 ii3 ii4 rfl (by decide) o3a 6 _ c.ks.length x4 (by first|rfl|(simp;done)) (P4.step (Step.ofBelow (I:=fun _=>False) o3a (b1 _ _)) id) ⟨w3a.heap.size,0,none⟩ 1 1 [.int .i64 8] rfl rfl ?c4 ?d4 (by decide) ?e4 ?f4 ?_)|go_in);try case c4=>exact new_one _ _ _
         try case d4=>first|rfl|exact one_one _ rfl
         case e4=>unfold maxLen;omega
         case f4=>omega
         intro g4 q4 w4a o4a P4 S4;have S4n:Step (fun k=>k=6) w3a o3a w4a o4a:=(Step.ofBelow o3a (b1 w3a (.cells #[.int .i64 8] 3))).trans S4;have SX:=SX.trans (S4n.mono (J:=I36) (fun k hk=>by subst hk;decide));have BX:=BX.step S4n (by decide)
         replace P1:=P1.step S4n (by decide)
         replace P2:=P2.step S4n (by decide)
         replace P3:=P3.step S4n (by decide)
         clear S4 S4n a0 a1 a2 a3;obtain⟨⟨a0,a1,a2,a3⟩,-⟩:=cells4 BX.1;obtain⟨b1,y1,r1,ob1,c1,f1,R1⟩:=P1.put1 (j:=c.ws.length) (by omega);cases r1;have S1:Step (fun k=>k=3) w4a o4a (w4a.setCell ⟨g1,c.ws.length,none⟩ (.int .u64 1)) o4a:=(Step.refl _ _ _).setCell ⟨g1,c.ws.length,none⟩ (.int .u64 1) ob1
         replace P2:=P2.step S1 (by decide)
         replace P3:=P3.step S1 (by decide)
         replace P4:=P4.step S1 (by decide)
         have SX:=SX.trans (S1.mono (J:=I36) (fun k hk=>by subst hk;decide));clear S1 R1;obtain⟨v1,hv1⟩:∃v1,v1=w4a.setCell ⟨g1,c.ws.length,none⟩ (.int .u64 1):=⟨_,rfl⟩
         have hI1:((c.ws.length:Int)+1)-1=(c.ws.length:Int):=by omega
         try rw[<-hv1] at SX
         try rw[<-hv1] at P2
         try rw[<-hv1] at P3
         try rw[<-hv1] at P4
         have HV1:=Lib.hid hv1;clear hv1;go_upto_region 22 with fail;rw[<-HV1.out];clear HV1;obtain⟨b2,y2,r2,ob2,c2,f2,R2⟩:=P2.put1 (j:=c.cs.length) (by omega);cases r2;have S2:Step (fun k=>k=4) v1 o4a (v1.setCell ⟨g2,c.cs.length,none⟩ (.int .i64 1)) o4a:=(Step.refl _ _ _).setCell ⟨g2,c.cs.length,none⟩ (.int .i64 1) ob2
         replace P3:=P3.step S2 (by decide)
         replace P4:=P4.step S2 (by decide)
         have SX:=SX.trans (S2.mono (J:=I36) (fun k hk=>by subst hk;decide));clear S2 R2;obtain⟨v2,hv2⟩:∃v2,v2=v1.setCell ⟨g2,c.cs.length,none⟩ (.int .i64 1):=⟨_,rfl⟩
         have hI2:((c.cs.length:Int)+1)-1=(c.cs.length:Int):=by omega
         try rw[<-hv2] at SX
         try rw[<-hv2] at P3
         try rw[<-hv2] at P4
         have HV2:=Lib.hid hv2;clear hv2;go_upto_region 23 with fail;rw[<-HV2.out];clear HV2;obtain⟨b3,y3,r3,ob3,c3,f3,R3⟩:=P3.put1 (j:=c.ns.length) (by omega);cases r3;have S3:Step (fun k=>k=5) v2 o4a (v2.setCell ⟨g3,c.ns.length,none⟩ (.string ⟨#[103,114,111,119,110]⟩)) o4a:=(Step.refl _ _ _).setCell ⟨g3,c.ns.length,none⟩ (.string ⟨#[103,114,111,119,110]⟩) ob3
         replace P4:=P4.step S3 (by decide)
         have SX:=SX.trans (S3.mono (J:=I36) (fun k hk=>by subst hk;decide));clear S3 R3;obtain⟨v3,hv3⟩:∃v3,v3=v2.setCell ⟨g3,c.ns.length,none⟩ (.string ⟨#[103,114,111,119,110]⟩):=⟨_,rfl⟩
         have hI3:((c.ns.length:Int)+1)-1=(c.ns.length:Int):=by omega
         try rw[<-hv3] at SX
         try rw[<-hv3] at P4
         have HV3:=Lib.hid hv3;clear hv3;go_upto_region 24 with fail;rw[<-HV3.out];clear HV3;obtain⟨b4,y4,r4,ob4,c4,f4,R4⟩:=P4.put1 (j:=c.ks.length) (by omega);cases r4;have S4:Step (fun k=>k=6) v3 o4a (v3.setCell ⟨g4,c.ks.length,none⟩ (.int .i64 1)) o4a:=(Step.refl _ _ _).setCell ⟨g4,c.ks.length,none⟩ (.int .i64 1) ob4;have SX:=SX.trans (S4.mono (J:=I36) (fun k hk=>by subst hk;decide));clear S4 R4;obtain⟨v4,hv4⟩:∃v4,v4=v3.setCell ⟨g4,c.ks.length,none⟩ (.int .i64 1):=⟨_,rfl⟩
         have hI4:((c.ks.length:Int)+1)-1=(c.ks.length:Int):=by omega
         try rw[<-hv4] at SX
         have HV4:=Lib.hid hv4;clear hv4;go_wp2
         go_end0
         exact⟨rfl,_,HSO.out.trans (by rw[<-HV4.out];exact SX)⟩
theorem dec_one (s:List UInt8):∃(c:Cd) (er:Int),∀ w z w',DecOut s w z w'->Below w.heap.size w w'/\∃p,z=.returned (.tuple #[cdV p c,.int .i64 er])/\CdW w' p c/\∃o',(∀ k,k<w.heap.size->o' k=0)/\CdR w' o' p c:=by
 by_cases hx:∃c,IsE s c
 ·obtain⟨c,hc⟩:=hx;exact⟨c,0,fun w z w' h=>h.yes hc⟩
 ·refine⟨⟨[],[],[],[]⟩,180,fun w z w' h=>?_⟩;obtain⟨B,⟨p,d,h1,h2,_⟩|⟨h1,_⟩⟩:=h
  ·exact absurd ⟨d,h2⟩ hx
  ·have R:CdR w' (fun _=>0) ⟨none,0,none,0,none,0,none,0⟩ ⟨[],[],[],[]⟩:=⟨Row.nil _ _ _ _ _,Row.nil _ _ _ _ _,Row.nil _ _ _ _ _,Row.nil _ _ _ _ _,by decide,by decide,by decide,by decide⟩
   exact⟨B,⟨none,0,none,0,none,0,none,0⟩,h1,R.cdw ⟨by simp,by simp,by simp,by simp⟩,fun _=>0,fun _ _=>rfl,R⟩
theorem codeReads_walk (s:ByteArray)(w:World)(hF:Fx w)(hs:s.size<=maxLen) :
  Calls Tryd.prog 5 #[.string s] w fun e w'=>e=.returned (.bool true)/\Below w.heap.size w w':=by
 obtain⟨c,er,HU⟩:=dec_one s.data.toList;have hs2:s.size<=9223372036854775807:=by unfold maxLen at hs;omega
 obtain⟨g,hg⟩:∃g,g=w.heap.size:=⟨_,rfl⟩
 have HA:=awake_c w hF;have HG:=Lib.hid hg;go_enter Tryd.func5,Tryd.ntmps5;go_wp2_with fail;refine HA.mono ?_;rintro e w1 ⟨rfl,B1⟩;have F1:=hF.below B1;have BB1:Below g w w1:=by rw[hg];exact B1
 have L1:g<=w1.heap.size:=by rw[hg];exact B1.size
 have HR:=rdecode_c s w1 hs2;clear HA B1 hF hg;go_wp2_with fail;refine HR.mono ?_;intro e w2 hD;obtain⟨B2,p,rfl,C2,-⟩:=HU _ _ _ hD;have F2:=F1.below B2;have BB2:=bdt BB1 B2 L1;have L2:=Nat.le_trans L1 B2.size;clear HR hD F1 BB1 B2 L1;obtain⟨w3,hw3⟩:∃w3,w3=w2.alloc (.cells (cdA p c) 26):=⟨_,rfl⟩
 obtain⟨g3,hg3⟩:∃g3,g3=w2.heap.size:=⟨_,rfl⟩
 have B3:Below w2.heap.size w2 w3:=by rw[hw3];exact b1 _ _
 have K3:bx4 p c w3 g3:=by rw[hw3,hg3];exact bx4_new p c w2
 have G3:g3<w3.heap.size:=by rw[hw3,hg3];simp
 have C3:=C2.below B3;have F3:=F2.below B3;have BB3:=bdt BB2 B3 L2;have L3:=Nat.le_trans L2 B3.size;have HG3:=Lib.hid hg3;clear B3 C2 F2 BB2 hg3 L2;go_upto_region 3 with fail;rw[<-hw3,<-HG3.out];clear hw3;have K:∀ {wr:World},Below w3.heap.size w3 wr->bx4 p c wr g3/\CdW wr p c/\Fx wr/\Below g w wr/\w3.heap.size<=wr.heap.size:=fun {wr} B=>⟨bx4_below K3 G3 B,C3.below B,F3.below B,bdt BB3 B L3,B.size⟩;have Bz:Below w3.heap.size w3 w3:=Below.refl _ _;clear K3 C3 F3;go_wp2_with fail;go_loopw [6] (fun v wr=>∃k:Nat,v=.int .i64 (k:Nat)/\k<=2/\Below w3.heap.size w3 wr) (fun v _=>2-(intOf v).toNat)
 case atStart=>exact⟨0,by go_num,by omega,Bz⟩
 case round =>
  obtain⟨k,rfl,hk,BR⟩:=hrel;obtain⟨KR,CR,FR,BBR,LR⟩:=K BR;by_cases hlt:k<2
  ·have hkI:(k:Int)<2:=by omega
   have HD:=decode_c s wr FR hs2;go_wp2_with fail;refine HD.mono ?_;intro e w4 hD;obtain⟨B4,q,rfl,C4,o4,ho4,R4⟩:=HU _ _ _ hD;obtain⟨w5,hw5⟩:∃w5,w5=w4.alloc (.cells (cdA q c) 26):=⟨_,rfl⟩
   obtain⟨g5,hg5⟩:∃g5,g5=w4.heap.size:=⟨_,rfl⟩
   have B5:Below w4.heap.size w4 w5:=by rw[hw5];exact b1 _ _
   have K5:bx4 q c w5 g5:=by rw[hw5,hg5];exact bx4_new q c w4
   have G5:g5<w5.heap.size:=by rw[hw5,hg5];simp
   have B45:Below wr.heap.size wr w5:=bdt B4 B5 B4.size;have KR5:=bx4_below KR (Nat.lt_of_lt_of_le G3 LR) B45;have CP5:=CR.below B45;have CQ5:=C4.below B5;have R5:=R4.step (Step.ofBelow (I:=fun _=>False) o4 B5) id id id id;have HS:=same_yes q p c w5 CQ5 CP5;have HG5:=Lib.hid hg5;clear HD hD KR CR FR C4 R4 B5 hg5 CP5 CQ5;go_upto_region 7 with fail;rw[<-hw5,<-HG5.out];clear hw5;obtain⟨j0,j1,j2,j3⟩:=K5;obtain⟨k0,k1,k2,k3⟩:=KR5;go_upto_region 8 with (first|(go_at_call 21;refine HS.mono ?_;rintro e w6 ⟨rfl,B6⟩))
   have K6:=bx4_below (p:=q) (c:=c) ⟨j0,j1,j2,j3⟩ G5 B6;have R6:=R5.step (Step.ofBelow (I:=fun _=>False) o4 B6) id id id id;have B46:Below wr.heap.size wr w6:=bdt B45 B6 B45.size;have HO:=over_c q c w6 o4 R6;have HB:Hid (∀ w7 o7,Step I36 w6 o4 w7 o7->Below w3.heap.size w3 w7):=fun w7 o7 S=>by
    have e:Below wr.heap.size w6 w7:=⟨S.os,S.tape,S.output,S.size,fun k hk=>S.block k (Nat.lt_of_lt_of_le hk B46.size) (by rw[ho4 k hk];decide)⟩
    exact bdt BR (B46.trans e) LR
   clear HS B6 R5 R6 B45 B46 j0 j1 j2 j3 k0 k1 k2 k3 B4 BR;obtain⟨k0,k1,k2,k3⟩:=K6;go_wp2_with (first|(go_at_call 22;refine HO.mono ?_;rintro e w7 ⟨rfl,o7,S7⟩));go_roundw
   case rel=>(try ((repeat apply Exists.intro);refine⟨?_,rfl⟩));exact⟨k+1,by go_num,by omega,HB.out _ _ S7⟩
   case measure=>simp[intOf];omega
  ·have hkI:¬(k:Int)<2:=by omega
   go_wp2;go_ret;exact⟨rfl,by rw[<-HG.out];exact BBR⟩
theorem words_oku (l:List Rw):∀ u ∈ l.map wdN,0<=u/\u<18446744073709551616:=fun u hu=>by
 obtain⟨r,_,rfl⟩:=List.mem_map.1 hu;exact wdN_bd r
abbrev nFew:ByteArray:=⟨#[102,101,119]⟩
abbrev nAll:ByteArray:=⟨#[97,108,108,50]⟩
theorem two_lsv (w:World)(t:TypeId):Lsv (w.alloc (.cells #[.string nFew,.string nAll] t)) (some ⟨w.heap.size,0,none⟩) (nsV [nFew,nAll]):=by
 have hh:=heap_alloc_new w (.cells #[.string nFew,.string nAll] t);refine .inr ⟨w.heap.size,0,rfl,by simp,fun j x hx=>?_⟩;unfold World.cell?;rw[hh]
 match j,hx with
 | 0,hx=>simp[nsV] at hx;subst hx;rfl
 | 1,hx=>simp[nsV] at hx;subst hx;rfl
theorem k1_lsvu (w:World)(g:Nat)(hg:w.heap.size=g)(t:TypeId):Lsv (w.alloc (.cells #[.int .i64 1] t)) (some ⟨g,0,none⟩) (isV [1]):=by
 subst hg;have hh:=heap_alloc_new w (.cells #[.int .i64 1] t);refine .inr ⟨w.heap.size,0,rfl,by simp,fun j x hx=>?_⟩;unfold World.cell?;rw[hh]
 match j,hx with
 | 0,hx=>simp[isV] at hx;subst hx;rfl
theorem text_oneu (w:World)(g:Nat)(b:UInt8)(hb:w.heap[g]?=some (.cells #[.int .u8 (b.toNat:Int)] 5 (0,0))) :
  (convert 44 9 (.slice (some ⟨g,0,none⟩) 1 1)).run Tryd.prog w=.ok (.string ⟨#[b]⟩) w :=
 run_convert_bytes_back _ 44 9 5 ⟨g,0,none⟩ 1 [b] Tryd.underlying44 Tryd.underlying5 Tryd.underlying9
  (fun j hj=>by
   have e:j=0:=by simp at hj;omega
   subst e;simp only[List.getElem_cons_zero];rw[Addr.add_mid,Nat.zero_add];simp[World.cell?,hb])
theorem codeTurned_walk (aR:Option Addr)(cR:Nat)(l:List Rw)(aS:Option Addr)(cS:Nat)(cs:List Int)(hw1 at1 by1:Int)(w:World)(hF:Fx w)
  (hR:RawW w aR l) (okR:∀ r ∈ l,r.Ok) (lR:l.length*24<=140737488351232) (hS:Lsv w aS (isV cs)) (okS:∀ u ∈ cs,-9223372036854775808<=u/\u<=9223372036854775807) (lS:cs.length*8<=140737488351232)
  (hh:-9223372036854775808<=hw1/\hw1<=9223372036854775807) (ha:-9223372036854775808<=at1/\at1<=9223372036854775807) (hb:-9223372036854775808<=by1/\by1<=9223372036854775807) :
  Calls Tryd.prog 6 #[.slice aR l.length cR,.slice aS cs.length cS,.int .i64 hw1,.int .i64 at1,.int .i64 by1] w fun e w'=>e=.returned (.bool true)/\Below w.heap.size w w':=by
 obtain⟨g,hg⟩:∃g,g=w.heap.size:=⟨_,rfl⟩
 obtain⟨w1,hw1e⟩:∃w1,w1=(w.alloc (.cells #[.string nFew,.string nAll] 9)).alloc (.cells #[.int .i64 1] 3):=⟨_,rfl⟩
 have B1:Below g w w1:=by rw[hw1e,hg];exact((Below.refl _ w).alloc (Nat.le_refl _) _).alloc (by simp) _
 have B1':Below w.heap.size w w1:=by rw[<-hg];exact B1
 have z1:w1.heap.size=g+2:=by rw[hw1e,hg];simp
 have N1:Lsv w1 (some ⟨g,0,none⟩) (nsV [nFew,nAll]):=by rw[hw1e,hg];exact(two_lsv w _).below (b1 _ _)
 have L1:Lsv w1 (some ⟨g+1,0,none⟩) (isV [1]):=by rw[hw1e];exact k1_lsvu _ (g+1) (by rw[hg];simp) _
 have F1:=hF.below B1';have HM:=mk_c w1 aR cR l (.slice aS cs.length cS) (.slice (some ⟨g,0,none⟩) 2 2) (.slice (some ⟨g+1,0,none⟩) 1 1) (hR.below B1') okR (by omega) ⟨_,_,_,rfl⟩ ⟨_,_,_,rfl⟩ ⟨_,_,_,rfl⟩;have S1:=hS.below B1';have PB:=fun w=>pick_c by1 256 w hb.1 hb.2 (by omega) (by omega);have PH:=fun w=>pick_c hw1 4 w hh.1 hh.2 (by omega) (by omega);have pb:=pk_bd by1 256 (by omega);have ph:=pk_bd hw1 4 (by omega);generalize pk by1 256=xb at *;generalize pk hw1 4=xh at *;have HG:=Lib.hid hg;clear hg hS hR B1' hF;go_enter Tryd.func6,Tryd.ntmps6;go_wp2_with fail;rw[<-hw1e,<-HG.out];clear hw1e;refine HM.mono ?_;rintro e w2 ⟨aw,cw,rfl,LW,B2⟩;obtain⟨c,hc⟩:∃c:Cd,c=⟨l.map wdN,cs,[nFew,nAll],[1]⟩:=⟨_,rfl⟩
 obtain⟨p,hp⟩:∃p:Pl,p=⟨aw,cw,aS,cS,some ⟨g,0,none⟩,2,some ⟨g+1,0,none⟩,1⟩:=⟨_,rfl⟩
 have C2:CdW w2 p c:=by
  rw[hc,hp];exact⟨⟨words_oku l,okS,by simp,by intro s hs;simp at hs;rcases hs with rfl|rfl<;>decide⟩,LW,S1.below B2,N1.below B2,L1.below B2,by simp;omega,by dsimp only;omega,by simp,by simp⟩
 have F2:=F1.below B2;have BB2:=bdt B1 B2 (by omega);have z2:g<=w2.heap.size:=Nat.le_trans (by omega) B2.size;have ev:(.agg #[.slice aw l.length cw,.slice aS cs.length cS,.slice (some ⟨g,0,none⟩) 2 2,.slice (some ⟨g+1,0,none⟩) 1 1]:Value)=cdV p c:=by rw[hp,hc];simp[cdV,cdA]
 rw[ev];obtain⟨w4,hw4⟩:∃w4,w4=w2.alloc (.cells (cdA p c) 26):=⟨_,rfl⟩
 obtain⟨g4,hg4⟩:∃g4,g4=w2.heap.size:=⟨_,rfl⟩
 have B4:Below w2.heap.size w2 w4:=by rw[hw4];exact b1 _ _
 have K4:bx4 p c w4 g4:=by rw[hw4,hg4];exact bx4_new p c w2
 have C4:=C2.below B4;have F4:=F2.below B4;have BB4:=bdt BB2 B4 z2;have z4:=Nat.le_trans z2 B4.size;have HG4:=Lib.hid hg4;clear HM LW B1 B2 F1 F2 C2 B4 hg4 ev hc hp L1 N1 S1 BB2 z1 z2;go_upto_region 2 with fail;rw[<-hw4,<-HG4.out];clear hw4;have HE:=rencode_c p c w4 C4;cases hr:rgtB c
 ·have e1:encR c=.tuple #[.string ⟨#[]⟩,.int .i64 180]:=by simp[encR,hr]
  rw[e1] at HE;obtain⟨k0,k1,k2,k3⟩:=K4;clear hr e1;go_wp2_with fail;refine HE.mono ?_;rintro e w5 ⟨rfl,B5⟩;have HA:=awake_c w5 (F4.below B5);have BB5:=bdt BB4 B5 z4;have z5:=Nat.le_trans z4 B5.size;clear HE B5;go_wp2_with fail;refine HA.mono ?_;rintro e w6 ⟨rfl,B6⟩;go_wp2;go_ret;exact⟨rfl,by rw[<-HG.out];exact bdt BB5 B6 z5⟩
 ·obtain⟨z,hz⟩:∃z:ByteArray,z=⟨(encB c).toArray⟩:=⟨_,rfl⟩
  have e1:encR c=.tuple #[.string z,.int .i64 0]:=by simp[encR,hr,hz]
  rw[e1] at HE;have hbl:=body_len C4.ok hr;have hel:(encB c).length=(bodB c).length+8:=sldB_len _;have sz:z.size=(encB c).length:=by rw[hz,size_mk]
  have sz1:8<=z.size:=by omega
  have sz2:z.size<=10000008:=by omega
  have PA:=fun w=>pick_c at1 (z.size:Int) w ha.1 ha.2 (by omega) (by omega);have pa:=pk_bd at1 (z.size:Int) (by omega);obtain⟨j,hj⟩:∃j:Nat,(j:Int)=pk at1 (z.size:Int):=⟨(pk at1 (z.size:Int)).toNat,by omega⟩
  rw[<-hj] at PA pa;obtain⟨k0,k1,k2,k3⟩:=K4;clear hr e1 hel hz hj hbl sz;go_wp2_with fail;refine HE.mono ?_;rintro e w5 ⟨rfl,B5⟩;have F5:=F4.below B5;have BB5:=bdt BB4 B5 z4;have z5:=Nat.le_trans z4 B5.size;clear HE B5 BB4 F4 C4 k0 k1 k2 k3 z4;have HRD:∀ (s:ByteArray) w6,s.size<=30000000->Below w5.heap.size w5 w6->Calls Tryd.prog 5 #[.string s] w6 fun e w'=>e=.returned (.bool true)/\Hid (Below g w w'):=fun s w6 h6 B6 =>
   (codeReads_walk s w6 (F5.below B6) (by unfold maxLen;omega)).mono fun e w' ⟨h1,h2⟩=>⟨h1,bdt (bdt BB5 B6 z5) h2 (Nat.le_trans z5 B6.size)⟩
  clear F5 BB5 z5;have hjI:(j:Int)<(z.size:Int):=pa.2;have hjl:j<z.size:=by omega
  clear pa;go_wp2_with fail;refine(PA _).mono ?_;rintro e w6 ⟨rfl,hww⟩;subst hww;go_wp2_with fail;refine(PH _).mono ?_;rintro e w6 ⟨rfl,hww⟩;subst hww;clear PA PH;obtain⟨za,ea⟩:∃za:ByteArray,z.extract 0 j=za:=⟨_,rfl⟩
  obtain⟨zc,ec⟩:∃zc:ByteArray,z.extract (j+1) z.size=zc:=⟨_,rfl⟩
  obtain⟨zd,ed⟩:∃zd:ByteArray,z.extract j z.size=zd:=⟨_,rfl⟩
  have sa:za.size<=10000008:=by rw[<-ea,ByteArray.size_extract];omega
  have sc:zc.size<=10000008:=by rw[<-ec,ByteArray.size_extract];omega
  have sd:zd.size<=10000008:=by rw[<-ed,ByteArray.size_extract];omega
  have i1:(0:Int)<=(j:Int):=by omega
  have i2:(j:Int)<=(z.size:Int):=by omega
  have i3:(0:Int)<=(j:Int)+1:=by omega
  have i4:IntKind.i64.wrap ((j:Int)+1)=(j:Int)+1:=by rw[IntKind.wrap_i64];omega
  have i5:((j:Int)+1).toNat=j+1:=by omega
  have i6:(j:Int)+1<=(z.size:Int):=by omega
  obtain⟨b,hbx⟩:∃b:UInt8,(b.toNat:Int)=xb:=⟨UInt8.ofNat xb.toNat,by rw[UInt8.toNat_ofNat'];omega⟩
  rw[<-hbx] at PB;have eb:IntKind.u8.wrap (b.toNat:Int)=(b.toNat:Int):=by rw[IntKind.wrap_u8];omega
  obtain⟨zb,ebz⟩:∃zb:ByteArray,(⟨#[b]⟩:ByteArray)=zb:=⟨_,rfl⟩
  have sb:zb.size=1:=by rw[<-ebz];rfl
  have m1:¬maxLen<za.size+zb.size:=by unfold maxLen;omega
  have m2:¬maxLen<(za++zb).size+zc.size:=by rw[ByteArray.size_append];unfold maxLen;omega
  have m3:¬maxLen<za.size+zb.size+zc.size:=by unfold maxLen;omega
  have m4:¬maxLen<(za++zb).size+zd.size:=by rw[ByteArray.size_append];unfold maxLen;omega
  have m5:¬maxLen<za.size+zb.size+zd.size:=by unfold maxLen;omega
  have m6:¬maxLen<za.size+zc.size:=by unfold maxLen;omega
  have H1:∀ wx,Below w6.heap.size w6 wx->Calls Tryd.prog 5 #[.string (za++zb++zc)] wx fun e w'=>e=.returned (.bool true)/\Hid (Below g w w'):=fun wx Bx=>HRD _ _ (by rw[ByteArray.size_append,ByteArray.size_append];omega) Bx;have H2:∀ wx,Below w6.heap.size w6 wx->Calls Tryd.prog 5 #[.string (za++zc)] wx fun e w'=>e=.returned (.bool true)/\Hid (Below g w w'):=fun wx Bx=>HRD _ _ (by rw[ByteArray.size_append];omega) Bx;have H3:∀ wx,Below w6.heap.size w6 wx->Calls Tryd.prog 5 #[.string (za++zb++zd)] wx fun e w'=>e=.returned (.bool true)/\Hid (Below g w w'):=fun wx Bx=>HRD _ _ (by rw[ByteArray.size_append,ByteArray.size_append];omega) Bx;have H4:∀ wx,Below w6.heap.size w6 wx->Calls Tryd.prog 5 #[.string za] wx fun e w'=>e=.returned (.bool true)/\Hid (Below g w w'):=fun wx Bx=>HRD _ _ (by omega) Bx;have fa:=text_oneu (w6.alloc (.cells #[.int .u8 (b.toNat:Int)] 5)).drew w6.heap.size b (heap_alloc_new w6 _);rw[ebz] at fa;have BA:Hid (Below w6.heap.size w6 (w6.alloc (.cells #[.int .u8 (b.toNat:Int)] 5)).drew):=((Below.refl _ w6).alloc (Nat.le_refl _) _).drew;clear HRD sa sb sc sd ebz hbx okR lR okS lS hh ha hb pb;have P4:xh=0\/xh=1\/xh=2\/xh=3:=by omega
  clear ph;rcases P4 with rfl|rfl|rfl|rfl
  ·have H22:=H1 _ BA.out;clear H1 H2 H3 H4;go_upto_region 9 with fail;go_region_with (first|(go_at_call 23;refine(PB _).mono ?_;rintro e w7 ⟨rfl,hww⟩;subst hww));go_wp2_with fail;refine H22.mono ?_;rintro e w8 ⟨rfl,hE⟩;go_wp2;go_ret;exact⟨rfl,by rw[<-HG.out];exact hE.out⟩
  ·have H22:=H2 _ ((Below.refl _ w6).drew);clear H1 H2 H3 H4;go_upto_region 11 with fail;go_region_with (fail);go_wp2_with fail;refine H22.mono ?_;rintro e w8 ⟨rfl,hE⟩;go_wp2;go_ret;exact⟨rfl,by rw[<-HG.out];exact hE.out⟩
  ·have H22:=H3 _ BA.out;clear H1 H2 H3 H4;go_upto_region 13 with fail;go_region_with (first|(go_at_call 23;refine(PB _).mono ?_;rintro e w7 ⟨rfl,hww⟩;subst hww));go_wp2_with fail;refine H22.mono ?_;rintro e w8 ⟨rfl,hE⟩;go_wp2;go_ret;exact⟨rfl,by rw[<-HG.out];exact hE.out⟩
  ·have H22:=H4 _ (Below.refl _ _);clear H1 H2 H3 H4;go_wp2_with fail;refine H22.mono ?_;rintro e w8 ⟨rfl,hE⟩;go_wp2;go_ret;exact⟨rfl,by rw[<-HG.out];exact hE.out⟩
theorem ownK:ownKnob Tryd.prog.godebug=none:=by kernel_rfl
theorem laidOut:laidOutB Tryd.prog=true:=by kernel_rfl
theorem cellsInt:Tryd.prog.cellsOf 3=1:=by kernel_rfl
theorem gWd : Tryd.prog.globalNamed "isthmus/lex.words" = some 1 := by kernel_rfl
theorem gWdType:(Tryd.prog.globals[1]?).map (·.type)=some 97:=by kernel_rfl
theorem cellsWd:Tryd.prog.cellsOf 97=27:=by kernel_rfl
theorem cellsStr:Tryd.prog.cellsOf 9=1:=by kernel_rfl
def wordsD:List (DataW Unit):=(List.range 27).map fun j=>.lit (.string (wd j).data.toList)
theorem wordsD_eq:(Rows.laid_isthmus_lex_words:DataW Unit)=.agg wordsD:=by rfl
theorem wordsA_list:wordsA.toList=(List.range 27).map fun j=>Value.string (wd j):=by rfl
theorem words_of_cells {W:World}{fuel:Nat}{cs:List Value}{p:List MemPlace}(h:DataW.trod (fun _=>()) Tryd.prog W 0 (fun _=>true) false fuel 97 cs=some (.agg wordsD,p)):cs=wordsA.toList:=by
 obtain⟨xs,m,_,hx,hl,hlen,hf⟩:=DataW.trod_array Tryd.underlying97 h;rw[cellsWd] at hl;simp only[cellsStr,Nat.mul_one] at hf;simp only[Prod.mk.injEq,DataW.agg.injEq] at hx;rw[wordsA_list];apply List.ext_getElem?;intro i;by_cases hi:i<27
 ·have hfi:=hf i hi;have hxi:xs[i]?=some xs[i]:=List.getElem?_eq_getElem (by omega);rw[hxi] at hfi;obtain⟨s,h1,h2⟩:=DataW.trod_string Tryd.underlying9 hfi;have hc:cs[i]?=some (.string s):=by
   have:=congrArg (·[0]?) h1
   simpa [List.getElem?_take,List.getElem?_drop] using this
  have hd:(xs.map (·.1))[i]?=some (.lit (.string s.data.toList)):=by rw[List.getElem?_map,hxi,h2.1];rfl
  rw[<-hx.1] at hd;unfold wordsD at hd;rw[List.getElem?_map,List.getElem?_range hi] at hd;simp only[Option.map_some,Option.some.injEq,DataW.lit.injEq,Lit.string.injEq] at hd;have hs:=bytes_eq.1 hd;rw[hc,List.getElem?_map,List.getElem?_range hi,<-hs];rfl
 ·rw[List.getElem?_eq_none (by omega),List.getElem?_eq_none (by simp;omega)]
theorem wd_of_laid {W : World} {r : List (String × DataW Unit)} (h : laidMet Tryd.prog (("isthmus/lex.words", Rows.laid_isthmus_lex_words) :: r) W) : Wd W := by
 rw[wordsD_eq] at h;obtain⟨ps,⟨g',t',cs,fuel,p,q,hg',ht',hvar,hd,_,_⟩,_⟩:=h;obtain rfl:=Option.some.inj (gWd.symm.trans hg');obtain rfl:=Option.some.inj (gWdType.symm.trans ht');have hcs:=words_of_cells hd;have hcs':cs=wordsA:=Array.toList_inj.1 hcs;subst hcs';simp only[World.var?,gWd,Option.bind_some] at hvar;split at hvar
 ·rename_i c t fr hh
  cases hvar;exact⟨t,fr,hh⟩
 ·cases hvar
def layCells (cs:Array Value):Obj->Obj
 | .cells _ t frozen=>.cells cs t frozen
 | o=>o
theorem tab_of_laid2 {W : World} {r : List (String × DataW Unit)} (h : laidMet Tryd.prog (("isthmus/pack.fields", Rows.laid_isthmus_pack_fields) :: r) W) : Tab W := by
 obtain⟨ps,⟨g',t',cs,fuel,p,q,hg',ht',hvar,hd,_,_⟩,_⟩:=h;obtain rfl:=Option.some.inj (gTab.symm.trans hg');obtain rfl:=Option.some.inj (gTabType.symm.trans ht');obtain⟨xs,m,_,hx,hl,hlen,hf⟩:=DataW.trod_array Tryd.underlying101 hd;rw[cellsTab] at hl;simp only[cellsField] at hf
 match xs,hlen with
 | [x0,x1,x2],_ =>
  have f0:=hf 0 (by omega);have f1:=hf 1 (by omega);have f2:=hf 2 (by omega);simp only[Rows.laid_isthmus_pack_fields,List.map_cons,List.map_nil,Prod.mk.injEq,DataW.agg.injEq,List.cons.injEq,and_true] at hx;obtain⟨⟨e0,e1,e2⟩,_⟩:=hx;obtain⟨d0,p0⟩:=x0;obtain⟨d1,p1⟩:=x1;obtain⟨d2,p2⟩:=x2;simp only at e0 e1 e2;subst e0 e1 e2;have g0:=field_cells f0;have g1:=field_cells f1;have g2:=field_cells f2;obtain⟨l⟩:=cs
  match l,hl with
  | [v0,v1,v2,v3,v4,v5],_ =>
   simp at g0 g1 g2;obtain⟨rfl,rfl⟩:=g0;obtain⟨rfl,rfl⟩:=g1;obtain⟨rfl,rfl⟩:=g2;have hc:=fun i=>World.var?_cell gTab hvar i;have c0:=hc 0;have c1:=hc 1;have c2:=hc 2;have c3:=hc 3;have c4:=hc 4;have c5:=hc 5;simp at c0 c1 c2 c3 c4 c5;refine⟨c0,c1,c2,c3,c4,c5,?_⟩;by_cases hs:2<W.heap.size
   ·exact hs
   ·exfalso
    have:W.heap[2]?=none:=Array.getElem?_eq_none (by omega)
    simp[World.cell?,this] at c0
theorem gRul : Tryd.prog.globalNamed "isthmus/code.rules" = some 0 := by kernel_rfl
theorem gRulType:(Tryd.prog.globals[0]?).map (·.type)=some 95:=by kernel_rfl
theorem cellsRul:Tryd.prog.cellsOf 95=56:=by kernel_rfl
theorem cellsRu1:Tryd.prog.cellsOf 94=2:=by kernel_rfl
def rulesD:List (DataW Unit):=(List.range 28).map fun j=>.agg [.lit (.int .i64 (rulA.getD j 0:Nat)),.lit (.int .i64 (rulB.getD j 0:Nat))]
theorem rulesD_eq:(Rows.laid_isthmus_code_rules:DataW Unit)=.agg rulesD:=by rfl
theorem rule_cells {W:World}{m:Nat}{l:List Value}{a b:Int}{p:List MemPlace}
  (h:DataW.trod (fun _=>()) Tryd.prog W 0 (fun _=>true) false m 94 l=some (.agg [.lit (.int .i64 a),.lit (.int .i64 b)],p)):l=[.int .i64 a,.int .i64 b]:=by
 obtain⟨y0,y1,n,hx,hl,h0,h1⟩:=trod_struct2 Tryd.underlying94 h;simp only[Prod.mk.injEq,DataW.agg.injEq,List.cons.injEq,and_true] at hx;obtain⟨⟨e0,e1⟩,_⟩:=hx;obtain⟨z0,c0,r0,_⟩:=DataW.trod_int Tryd.underlying3 h0;obtain⟨z1,c1,r1,_⟩:=DataW.trod_int Tryd.underlying3 h1;subst r0 r1;simp only[DataW.lit.injEq,Lit.int.injEq,true_and] at e0 e1;subst e0 e1;rw[cellsRu1] at hl;simp only[cellsInt] at c0 c1
 match l,hl with
 | [v0,v1],_ =>
  simp at c0 c1;rw[c0,c1]
theorem rul_of_laid {W : World} {r : List (String × DataW Unit)} (h : laidMet Tryd.prog (("isthmus/code.rules", Rows.laid_isthmus_code_rules) :: r) W) : Rul W := by
 rw[rulesD_eq] at h;obtain⟨ps,⟨g',t',cs,fuel,p,q,hg',ht',hvar,hd,_,_⟩,_⟩:=h;obtain rfl:=Option.some.inj (gRul.symm.trans hg');obtain rfl:=Option.some.inj (gRulType.symm.trans ht');obtain⟨xs,m,_,hx,hl,hlen,hf⟩:=DataW.trod_array Tryd.underlying95 hd;rw[cellsRul] at hl;simp only[cellsRu1] at hf;simp only[Prod.mk.injEq,DataW.agg.injEq] at hx;have hc:=fun i=>World.var?_cell gRul hvar i;have key:∀ o,o<28->cs[o*2]?=some (.int .i64 (rulA.getD o 0:Nat))/\cs[o*2+1]?=some (.int .i64 (rulB.getD o 0:Nat)):=fun o ho=>by
  have hfi:=hf o ho;have hxi:xs[o]?=some xs[o]:=List.getElem?_eq_getElem (by omega);rw[hxi] at hfi;have hd:(xs.map (·.1))[o]?=some (xs[o].1):=by rw[List.getElem?_map,hxi];rfl
  rw[<-hx.1] at hd;unfold rulesD at hd;rw[List.getElem?_map,List.getElem?_range ho] at hd;simp only[Option.map_some,Option.some.injEq] at hd;have g:=rule_cells (p:=xs[o].2) (hfi.trans (congrArg some (Prod.ext hd.symm rfl)));have h0:((cs.toList.drop (o*2)).take 2)[0]?=some (.int .i64 (rulA.getD o 0:Nat)):=by rw[g];rfl
  have h1:((cs.toList.drop (o*2)).take 2)[1]?=some (.int .i64 (rulB.getD o 0:Nat)):=by rw[g];rfl
  simp only[List.getElem?_take,List.getElem?_drop] at h0 h1;exact⟨by simpa using h0,by simpa using h1⟩
 refine⟨?_,fun o ho=>⟨(hc (o*2)).trans (key o ho).1,(hc (o*2+1)).trans (key o ho).2⟩⟩;by_cases hs:0<W.heap.size
 ·exact hs
 ·exfalso;have h0:=(hc (0*2)).trans (key 0 (by omega)).1
  have:W.heap[0]?=none:=Array.getElem?_eq_none (by omega)
  simp[World.cell?,this] at h0
theorem fx_of_laid {W : World} (h : laidMet Tryd.prog [("isthmus/pack.fields", Rows.laid_isthmus_pack_fields), ("isthmus/lex.words", Rows.laid_isthmus_lex_words), ("isthmus/code.rules", Rows.laid_isthmus_code_rules)] W) : Fx W := ⟨tab_of_laid2 h, rul_of_laid h.tail.tail, wd_of_laid h.tail⟩
def rulesA:Array Value:=((List.range 56).map fun j=>if j % 2=0 then Value.int .i64 (rulA.getD (j / 2) 0:Nat) else .int .i64 (rulB.getD (j / 2) 0:Nat)).toArray
def laidWorld (P:Program)(os:Os):World :=
 let w0:=World.holding P os ⟨#[],#[],[]⟩
 { w0 with heap:=((w0.heap.modify 2 (layCells #[.int .u64 56,.int .u64 255,.int .u64 28,.int .u64 268435455,.int .u64 0,.int .u64 268435455])).modify 1 (layCells wordsA)).modify 0 (layCells rulesA) }
theorem cellsRaw:Tryd.prog.cellsOf 48=3:=by kernel_rfl
def Wgh {H:Type}(d:DataW H)(n:Nat):Prop:=(d=.nil/\n=0)\/∃es sp,d=.slice es sp/\n<=es.length+sp.length
theorem lsv_of {W:World}{a:Addr}{len cap:Nat}{vs:List Value}(hl:len<=vs.length)(hc:∀ i (h:i<vs.length),W.cell? (a.add i)=some vs[i])(hb:0<len->a.block<W.heap.size):Lsv W (some a) (vs.take len):=by
 by_cases h0:len=0
 ·exact .inl (by simp[h0])
 ·obtain⟨b,off,spot⟩:=a;have h1:=hc 0 (by omega);have hspot:spot=none:=by simpa [Addr.add] using World.cell?_spot h1
  subst hspot;refine .inr ⟨b,off,rfl,hb (by omega),fun j x hj=>?_⟩;rw[List.getElem?_take] at hj;split at hj
  ·have hj2:=List.getElem?_eq_some_iff.1 hj;obtain⟨h2,h3⟩:=hj2
   have:=hc j h2
   rw[Addr.add_mid] at this;rw[this,h3]
  ·cases hj
theorem opn_ints {H:Type}{enc:TypeId × Value->H}{W:World}{k:IntKind}{t e:TypeId}{fuel:Nat}{u:Value}{x:DataW H × List MemPlace}(ht:Tryd.prog.underlying t=some (.slice e))(he:Tryd.prog.underlying e=some (.int k))(hc:Tryd.prog.cellsOf e=1)
  (h:DataW.trod enc Tryd.prog W 0 (fun _=>true) true fuel t [u]=some x) (hlt:∀ q ∈ x.2,q.block<W.heap.size) :
  ∃(ao:Option Addr) (cap:Nat) (zs:List Int),u=.slice ao zs.length cap/\Lsv W ao (zs.map (.int k ·))/\(∀ n ∈ zs,(Lit.int k n).wf=true)/\zs.length<=maxLen/\Wgh x.1 zs.length:=by
 rcases open_ints ht he hc h with ⟨hcs,hx⟩|⟨a,len,cap,zs,hcs,_,hl,hm,hz,hx,hcell,hwz⟩
 ·simp at hcs;exact⟨none,0,[],hcs,.inl rfl,by simp,by unfold maxLen;simp,.inl ⟨by rw[hx],rfl⟩⟩
 ·simp at hcs;simp only[if_true] at hz;have hlz:(zs.take len).length=len:=by rw[List.length_take];omega
  refine⟨some a,cap,zs.take len,by rw[hlz];exact hcs,?_,fun n hn=>hwz n (List.mem_of_mem_take hn),by rw[hlz];exact Nat.le_trans hl hm,.inr ⟨_,_,by rw[hx],by simp[lits]<;>omega⟩⟩;rw[List.map_take];refine lsv_of (cap:=cap) (by simp;omega) (fun i hi=>?_) (fun h0=>?_)
  ·have hi':i<zs.length:=by simpa using hi
   have:=hcell i hi'
   rw[this];simp[List.getD_eq_getElem?_getD,List.getElem?_eq_getElem hi']
  ·have:=hlt (.cell a.block a.off) (by
    rw[hx];exact MemPlace.mem_row.2 ⟨0,by omega,by simp⟩)
   exact this
theorem open_isl {H:Type}{enc:TypeId × Value->H}{W:World}{a:Option Addr}{n c:Nat}{d:DataW H}{ps:List MemPlace}(h:DataW.Trod enc Tryd.prog W 0 (fun _=>true) true 23 (.slice a n c) d ps)(hlt:∀ q ∈ ps,q.block<W.heap.size) :
  ∃(ao:Option Addr) (cap:Nat) (zs:List Int),(.slice a n c:Value)=.slice ao zs.length cap/\Lsv W ao (isV zs)/\(∀ u ∈ zs,-9223372036854775808<=u/\u<=9223372036854775807)/\zs.length<=maxLen/\Wgh d zs.length:=by
 obtain⟨fuel,hf⟩:=h;obtain⟨ao,cap,zs,h1,h2,h3,h4,h5⟩:=opn_ints Tryd.underlying23 Tryd.underlying3 cellsInt hf hlt;exact⟨ao,cap,zs,h1,h2,fun u hu=>bd_i64 (h3 u hu),h4,h5⟩
theorem addp (b off k:Nat):(⟨b,off,none⟩:Addr).add k=⟨b,off+k,none⟩:=Addr.add_mid ..
theorem open_raws {H:Type}{enc:TypeId × Value->H}{W:World}{a:Option Addr}{n c:Nat}{d:DataW H}{ps:List MemPlace}(h:DataW.Trod enc Tryd.prog W 0 (fun _=>true) true 36 (.slice a n c) d ps)(hlt:∀ q ∈ ps,q.block<W.heap.size) :
  ∃(ao:Option Addr) (cap:Nat) (zs:List Rw),(.slice a n c:Value)=.slice ao zs.length cap/\RawW W ao zs/\(∀ r ∈ zs,r.Ok)/\zs.length<=maxLen/\Wgh d zs.length:=by
 obtain⟨fuel,hf⟩:=h;rcases Go.Deep.open_slice Tryd.underlying36 hf with ⟨hcs,hx⟩|⟨a',len',cap',m,n',D,Pl,hcs,_,hl,hm,hmm,hx,hel⟩
 ·simp[Value.cells] at hcs;obtain⟨rfl,rfl,rfl⟩:=hcs;simp only[Prod.mk.injEq] at hx;exact⟨none,0,[],rfl,.inl rfl,by simp,by simp,.inl ⟨hx.1,rfl⟩⟩
 ·simp[Value.cells] at hcs;obtain⟨rfl,rfl,rfl⟩:=hcs;simp only[Prod.mk.injEq] at hx;obtain⟨rfl,rfl⟩:=hx;simp only[if_true] at hmm;subst hmm;obtain⟨b,off,spot⟩:=a';have each:∀ i,i<n->∃r:Rw,spot=none/\b<W.heap.size/\(W.cell? ⟨b,off+i*3,none⟩=some (.int .i64 r.o)/\W.cell? ⟨b,off+i*3+1,none⟩=some (.int .i64 r.a)/\W.cell? ⟨b,off+i*3+2,none⟩=some (.int .i64 r.b))/\r.Ok:=by
   intro i hi;obtain⟨cs',h1,h2⟩:=hel i (by omega);rw[cellsRaw] at h1;obtain⟨_,hlen,hcell⟩:=World.cells?_some h1;obtain⟨xs,k,hk,hxy,_,hxl,hff⟩:=DataW.trod_struct Tryd.underlying48 h2
   match xs,hxl,cs',hlen with
   | [y0,y1,y2],_,[u0,u1,u2],_ =>
    have g0:=hff 0 _ rfl;have g1:=hff 1 _ rfl;have g2:=hff 2 _ rfl;simp[cellsInt] at g0 g1 g2;obtain⟨z0,e0,_,w0⟩:=DataW.trod_int Tryd.underlying3 g0;obtain⟨z1,e1,_,w1⟩:=DataW.trod_int Tryd.underlying3 g1;obtain⟨z2,e2,_,w2⟩:=DataW.trod_int Tryd.underlying3 g2;simp at e0 e1 e2;subst e0 e1 e2;have c0:=hcell 0 (by omega);have c1:=hcell 1 (by omega);have c2:=hcell 2 (by omega);have hspot:spot=none:=by
     obtain⟨cs0,k1,k2⟩:=hel 0 (by omega);rw[cellsRaw] at k1;obtain⟨_,klen,kcell⟩:=World.cells?_some k1;have k3:=kcell 0 (by omega);rw[List.getElem?_eq_getElem (by omega)] at k3;simpa [Addr.add] using World.cell?_spot k3
    subst hspot;simp only[addp] at c0 c1 c2;have hbl:b<W.heap.size:=hlt (.cell b off) (List.mem_append_left _ (MemPlace.mem_row.2 ⟨0,by rw[cellsRaw];omega,by simp⟩));have b0:=bd_i64 w0;have b1:=bd_i64 w1;have b2:=bd_i64 w2;exact⟨⟨z0,z1,z2⟩,rfl,hbl,⟨by simpa using c0,by simpa using c1,by simpa using c2⟩,⟨b0.1,b0.2,b1.1,b1.2,b2.1,b2.2⟩⟩
  have hlen:((List.range n).map fun i=>if h:i<n then (each i h).choose else ⟨0,0,0⟩).length=n:=by simp
  refine⟨some ⟨b,off,spot⟩,m,(List.range n).map fun i=>if h:i<n then (each i h).choose else ⟨0,0,0⟩,by rw[hlen],?_,?_,by rw[hlen];exact Nat.le_trans hl hm,.inr ⟨_,_,rfl,by simp<;>omega⟩⟩
  ·by_cases h0:n=0
   ·subst h0;exact .inl rfl
   ·have s0:=(each 0 (by omega)).choose_spec;refine .inr ⟨b,off,by rw[s0.1],s0.2.1,fun k hk=>?_⟩;have hk':k<n:=by simpa using hk
    simp only[List.getElem_map,List.getElem_range,dif_pos hk'];exact(each k hk').choose_spec.2.2.1
  ·intro r hr;obtain⟨i,hi,rfl⟩:=List.mem_map.1 hr;have hi':=List.mem_range.1 hi;simp only[dif_pos hi'];exact(each i hi').choose_spec.2.2.2
end Go.Proofs.YtjjhcbmhdkobkaaDoor
