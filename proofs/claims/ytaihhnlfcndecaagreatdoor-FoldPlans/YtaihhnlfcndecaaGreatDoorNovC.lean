import Derived.Test.YtaihhnlfcndecaaGreatDoorPlaA
set_option maxRecDepth 100000
set_option maxHeartbeats 8000000
namespace Go.Proofs.YtaihhnlfcndecaaGreatDoor
open Go.ChangeShapes Go.WideShapes Go.ChangeAt Go.RowKit
set_option linter.unusedVariables false
set_option linter.unusedSimpArgs false
theorem numbers_c (w:World)(v1 v2:Value)(xs ys:List Int)(h1:InA w v1 xs)(h2:InA w v2 ys)(hl:xs.length<=1000000000) :
  Calls Tryz.prog 43 #[v1,v2] w fun x w'=>x=.returned (.bool (decide (xs=ys)))/\Below w.heap.size w w':=by
 obtain ⟨W,hW⟩:∃W,W=decide (xs=ys):=⟨_,rfl⟩;rw[<-hW];have HW:Hid (W=decide (xs=ys)):=hW;clear hW;obtain ⟨a1,c1,rfl,h1⟩:=h1;obtain ⟨a2,c2,rfl,h2⟩:=h2;go_enter Tryz.func43,Tryz.ntmps43;by_cases hll:xs.length=ys.length
 ·have hI:((xs.length:Int) != (ys.length:Int))=false:=by rw[hll];simp
  have HL:Hid (xs.length=ys.length):=hll;clear hll;go_wp2
  go_loopw [5] (fun v wr=>∃k:Nat,k<=xs.length/\v=.int .i64 (k:Nat)/\Hid (∀ j,j<k->xs[j]?=ys[j]?)/\Below w.heap.size w wr) (fun v _=>xs.length - (intOf v).toNat)
  case atStart=>exact ⟨0,by omega,by go_num,fun j hj=>absurd hj (Nat.not_lt_zero _),Below.refl _ _⟩
  case round =>
   obtain ⟨k,hk,rfl,hno,B1⟩:=hrel;by_cases hlt:k<xs.length
   ·have hy:k<ys.length:=by have:=HL.out;omega
    have hx1:xs[k]?=some xs[k]:=List.getElem?_eq_getElem hlt;have hy1:ys[k]?=some ys[k]:=List.getElem?_eq_getElem hy;rcases h1 with rfl|⟨g1,o1,rfl,-,hg1,hc1⟩
    ·simp at hlt
    rcases h2 with rfl|⟨g2,o2,rfl,-,hg2,hc2⟩
    ·simp at hy
    have x1:=(B1.cell (p:=⟨g1,o1+k,none⟩) hg1).trans (hc1 k _ hx1);have y1:=(B1.cell (p:=⟨g2,o2+k,none⟩) hg2).trans (hc2 k _ hy1);generalize xs[k]=x at x1 hx1;generalize ys[k]=y at y1 hy1;have hkI:(k:Int)<(xs.length:Int):=by omega
    have hkJ:(k:Int)<(ys.length:Int):=by omega
    have HX:Hid (xs[k]?=some x/\ys[k]?=some y):=⟨hx1,hy1⟩;clear hx1 hy1 hc1 hc2 hI;by_cases he:x=y
    ·have hbe:(x != y)=false:=by simpa using he
     have hn2:Hid (∀ j,j<k+1->xs[j]?=ys[j]?):=by
      intro j hj;rcases Nat.lt_succ_iff_lt_or_eq.1 hj with h3|rfl
      ·exact hno.out j h3
      ·rw[HX.out.1,HX.out.2,he]
     clear hno HX he HW;go_wp2_with fail
     go_quiet (fail)
     have B2:=B1.trans (show Below w.heap.size wr (wr.drewN nq) from ⟨rfl,rfl,rfl,Nat.le_refl _,fun _ _=>rfl⟩)
     go_wp2
     go_roundw
     case rel=>exact ⟨k+1,by omega,by go_num,hn2,B2⟩
     case measure=>simp[intOf];omega
    ·have hbe:(x != y)=true:=by simpa using he
     have FIN:Hid (W=false):=by
      show W=_
      rw[HW.out]
      apply decide_eq_false
      intro h3;rw[h3,HX.out.2] at HX
      have:=HX.out.1
      injection this with this
      exact he this.symm
     clear hno HX he HW;go_wp2_with fail
     go_quiet (fail)
     have B2:=B1.trans (show Below w.heap.size wr (wr.drewN nq) from ⟨rfl,rfl,rfl,Nat.le_refl _,fun _ _=>rfl⟩)
     go_wp2;go_ret;rw[FIN.out];exact ⟨rfl,B2⟩
   ·have hkI:¬(k:Int)<(xs.length:Int):=by omega
    have FIN:Hid (W=true):=by
     show W=_
     rw[HW.out]
     apply decide_eq_true
     apply List.ext_getElem?
     intro j;rcases Nat.lt_or_ge j k with h3|h3
     ·exact hno.out j h3
     ·rw[List.getElem?_eq_none (by omega),List.getElem?_eq_none (by have:=HL.out;omega)]
    clear hno HW h1 h2 hI;go_wp2;go_ret;rw[FIN.out];exact ⟨rfl,B1⟩
 ·have hI:((xs.length:Int) != (ys.length:Int))=true:=by simp;omega
  have FIN:Hid (W=false):=by
   show W=_
   rw[HW.out];exact decide_eq_false (fun h3=>hll (by rw[h3]))
  clear HW hll h1 h2;go_wp2;go_ret;rw[FIN.out];exact ⟨rfl,Below.refl _ _⟩
def hvP (e:Ex)(cells:List Int):Bool:=decide (20000<cells.length)||decide (wgF e.kids (20000 - 1)<0)
theorem heavy14_c (e:Ex)(ao:Option Addr)(cap ac0:Nat)(cv:Value)(cells:List Int)(w:World)(hc:InA w cv cells)(hcl:cells.length<=maxLen)(hlen:e.kids.len<=maxLen)(hwd:e.kids.wide)(S:SnA w e.kids ao) :
  Calls Tryz.prog 14 #[plV e ao cap cv] w fun x w'=>x=.returned (.bool (hvP e cells))/\Below w.heap.size w w':=by
 obtain ⟨W,hW⟩:∃W,W=hvP e cells:=⟨_,rfl⟩;rw[<-hW];have HW:Hid (W=hvP e cells):=hW;clear hW;obtain ⟨ac,cc,hcv,hcx⟩:=hc;subst hcv;clear hcx;have hml:Hid (maxLen=9223372036854775807):=rfl;have hcm:cells.length<=9223372036854775807:=by have:=hml.out;omega
 have B0:Below w.heap.size w (w.alloc (.cells #[.int .i64 e.k,.int .i64 e.n,stv e.nm,.slice ao e.kids.len cap,.slice ac cells.length cc] 37)):=(Below.refl _ w).alloc (Nat.le_refl _) _;have E0:(w.alloc (.cells #[.int .i64 e.k,.int .i64 e.n,stv e.nm,.slice ao e.kids.len cap,.slice ac cells.length cc] 37)).heap[w.heap.size]?=some (.cells #[.int .i64 e.k,.int .i64 e.n,stv e.nm,.slice ao e.kids.len cap,.slice ac cells.length cc] 37):=heap_alloc_new w _;have S0:=SnA.below S B0;rw[plV_out];go_enter Tryz.func14,Tryz.ntmps14;go_upto_region 1 with fail;generalize w.alloc (.cells #[.int .i64 e.k,.int .i64 e.n,stv e.nm,.slice ao e.kids.len cap,.slice ac cells.length cc] 37)=w0 at *;obtain ⟨p0,p1,p2,p3,p4,pf⟩:=box5 E0;by_cases h2:20000<cells.length
 ·have hI:(20000:Int)<(cells.length:Int):=by omega
  have HZ:Hid (W=true):=by show W=_;rw[HW.out];simp[hvP,h2]
  clear HW h2;go_wp2;go_ret;rw[HZ.out];exact ⟨rfl,B0⟩
 ·have hI:¬(20000:Int)<(cells.length:Int):=by omega
  have HZ:Hid (W=decide (wgF e.kids (20000 - 1)<0)):=by show W=_;rw[HW.out];simp[hvP,h2]
  have c1:=weighn_ok (e.kids.size+1) e ao cap 20000 w0 (by omega) hlen hwd (by omega) (by omega) S0
  rw[exN_out] at c1;generalize wgF e.kids (20000 - 1)=g at *;clear HW h2;go_wp2_with fail;refine c1.mono ?_;rintro z w1 ⟨rfl,b1⟩;have B1:Below w.heap.size w w1:=B0.trans (b1.mono B0.size);clear c1 p0 p1 p2 p3 p4 pf E0;go_wp2;go_ret;rw[HZ.out];exact ⟨rfl,B1⟩
theorem same14_c (e e2:Ex)(ao ao2:Option Addr)(cap cap2:Nat)(cv cv2:Value)(xs ys:List Int)(w:World)(h1:InA w cv xs)(h2:InA w cv2 ys)(hl:xs.length<=1000000000)(hf:e.kids.len<=1000000000/\e.kids.short)(hf2:e2.kids.len<=1000000000/\e2.kids.short)(S:SnA w e.kids ao)(S2:SnA w e2.kids ao2) :
  Calls Tryz.prog 19 #[plV e ao cap cv,plV e2 ao2 cap2 cv2] w fun x w'=>x=.returned (.bool (decide (xs=ys)&&sameE e e2))/\Below w.heap.size w w':=by
 obtain ⟨W,hW⟩:∃W,W=(decide (xs=ys)&&sameE e e2):=⟨_,rfl⟩;rw[<-hW];have HW:Hid (W=(decide (xs=ys)&&sameE e e2)):=hW;clear hW;obtain ⟨ac,cc,hv1,h1⟩:=h1;subst hv1;obtain ⟨ac2,cc2,hv2,h2⟩:=h2;subst hv2;obtain ⟨w0,hw0⟩:∃w0,w0=(w.alloc (.cells #[.int .i64 e.k,.int .i64 e.n,stv e.nm,.slice ao e.kids.len cap,.slice ac xs.length cc] 37)).alloc (.cells #[.int .i64 e2.k,.int .i64 e2.n,stv e2.nm,.slice ao2 e2.kids.len cap2,.slice ac2 ys.length cc2] 37):=⟨_,rfl⟩;have B0:Below w.heap.size w w0:=by rw[hw0];exact ((Below.refl _ w).alloc (Nat.le_refl _) _).alloc (by simp) _
 have E0:w0.heap[w.heap.size]?=some (.cells #[.int .i64 e.k,.int .i64 e.n,stv e.nm,.slice ao e.kids.len cap,.slice ac xs.length cc] 37):=by
  rw[hw0];exact (Below.heap_alloc _ _ _ (by simp)).trans (heap_alloc_new w _)
 have D0:w0.heap[w.heap.size+1]?=some (.cells #[.int .i64 e2.k,.int .i64 e2.n,stv e2.nm,.slice ao2 e2.kids.len cap2,.slice ac2 ys.length cc2] 37):=by
  rw[hw0]
  have:=heap_alloc_new (w.alloc (.cells #[.int .i64 e.k,.int .i64 e.n,stv e.nm,.slice ao e.kids.len cap,.slice ac xs.length cc] 37)) (.cells #[.int .i64 e2.k,.int .i64 e2.n,stv e2.nm,.slice ao2 e2.kids.len cap2,.slice ac2 ys.length cc2] 37)
  simpa using this
 rw[plV_out,plV_out];go_enter Tryz.func19,Tryz.ntmps19;go_upto_region 1 with fail;rw[<-hw0];obtain ⟨bx,hbx⟩:∃bx,bx=w.heap.size:=⟨_,rfl⟩;rw[<-hbx] at E0 D0 B0 ⊢;have HB:Hid (bx=w.heap.size):=hbx;clear hbx hw0;have hbl:=lt_of_block E0;have hdl:=lt_of_block D0;obtain ⟨p0,p1,p2,p3,p4,pf⟩:=box5 E0;obtain ⟨q0,q1,q2,q3,q4,qf⟩:=box5 D0;by_cases hll:xs.length=ys.length
 ·have hI:((xs.length:Int) != (ys.length:Int))=false:=by rw[hll];simp
  have HL:Hid (xs.length=ys.length):=hll;clear hll p0 p1 p2 p3 p4 pf q0 q1 q2 q3 q4 qf;obtain ⟨p0,p1,p2,p3,p4,pf⟩:=box5 E0;obtain ⟨q0,q1,q2,q3,q4,qf⟩:=box5 D0;go_wp2
  go_loopw [5] (fun v wr=>∃k:Nat,k<=xs.length/\v=.int .i64 (k:Nat)/\Hid (∀ j,j<k->xs[j]?=ys[j]?)/\Below w0.heap.size w0 wr) (fun v _=>xs.length - (intOf v).toNat)
  case atStart=>exact ⟨0,by omega,by go_num,fun j hj=>absurd hj (Nat.not_lt_zero _),Below.refl _ _⟩
  case round =>
   obtain ⟨k,hk,rfl,hno,B1⟩:=hrel;have E1:=(B1.block _ hbl).trans E0;have D1:=(B1.block _ hdl).trans D0;have BW:Below bx w wr:=B0.trans (B1.mono (Nat.le_of_lt hbl));clear p0 p1 p2 p3 p4 pf q0 q1 q2 q3 q4 qf;obtain ⟨p0,p1,p2,p3,p4,pf⟩:=box5 E1;obtain ⟨q0,q1,q2,q3,q4,qf⟩:=box5 D1;by_cases hlt:k<xs.length
   ·have hy:k<ys.length:=by have:=HL.out;omega
    have hx1:xs[k]?=some xs[k]:=List.getElem?_eq_getElem hlt;have hy1:ys[k]?=some ys[k]:=List.getElem?_eq_getElem hy;rcases h1 with rfl|⟨g1,o1,rfl,-,hg1,hc1⟩
    ·simp at hlt
    rcases h2 with rfl|⟨g2,o2,rfl,-,hg2,hc2⟩
    ·simp at hy
    have x1:=(BW.cell (p:=⟨g1,o1+k,none⟩) (by rw[HB.out];exact hg1)).trans (hc1 k _ hx1)
    have y1:=(BW.cell (p:=⟨g2,o2+k,none⟩) (by rw[HB.out];exact hg2)).trans (hc2 k _ hy1)
    generalize xs[k]=x at x1 hx1;generalize ys[k]=y at y1 hy1;have hkI:(k:Int)<(xs.length:Int):=by omega
    have hkJ:(k:Int)<(ys.length:Int):=by omega
    have HX:Hid (xs[k]?=some x/\ys[k]?=some y):=⟨hx1,hy1⟩;clear hx1 hy1 hc1 hc2 hI;by_cases he:x=y
    ·have hbe:(x != y)=false:=by simpa using he
     have hn2:Hid (∀ j,j<k+1->xs[j]?=ys[j]?):=by
      intro j hj;rcases Nat.lt_succ_iff_lt_or_eq.1 hj with h3|rfl
      ·exact hno.out j h3
      ·rw[HX.out.1,HX.out.2,he]
     clear hno HX he HW;go_wp2_with fail
     go_quiet (fail)
     have B2:=B1.trans (show Below w0.heap.size wr (wr.drewN nq) from ⟨rfl,rfl,rfl,Nat.le_refl _,fun _ _=>rfl⟩)
     go_wp2
     go_roundw
     case rel=>exact ⟨k+1,by omega,by go_num,hn2,B2⟩
     case measure=>simp[intOf];omega
    ·have hbe:(x != y)=true:=by simpa using he
     have FIN:Hid (W=false):=by
      show W=_
      rw[HW.out]
      have:decide (xs=ys)=false:=by
       apply decide_eq_false
       intro h3;rw[h3,HX.out.2] at HX
       have:=HX.out.1
       injection this with this
       exact he this.symm
      rw[this];rfl
     clear hno HX he HW;go_wp2_with fail
     go_quiet (fail)
     have B2:Below bx w (wr.drewN nq):=BW.trans ⟨rfl,rfl,rfl,Nat.le_refl _,fun _ _=>rfl⟩
     go_wp2;go_ret;rw[FIN.out];exact ⟨rfl,by rw[<-HB.out];exact B2⟩
   ·have hkI:¬(k:Int)<(xs.length:Int):=by omega
    have FIN:Hid (W=sameE e e2):=by
     show W=_
     rw[HW.out]
     have:decide (xs=ys)=true:=by
      apply decide_eq_true
      apply List.ext_getElem?
      intro j;rcases Nat.lt_or_ge j k with h3|h3
      ·exact hno.out j h3
      ·rw[List.getElem?_eq_none (by omega),List.getElem?_eq_none (by have:=HL.out;omega)]
     rw[this];rfl
    have BW2:Below w.heap.size w wr:=by rw[<-HB.out];exact BW
    have c8:=samenode_ok (e.kids.size+1) e e2 ao ao2 cap cap2 wr (by omega) hf.1 hf.2 hf2.1 hf2.2 (SnA.below S BW2) (SnA.below S2 BW2)
    rw[exN_out,exN_out] at c8;generalize sameE e e2=sm at *;clear hno HW h1 h2 hI;go_wp2_with fail;refine c8.mono ?_;rintro z w2 ⟨rfl,b2⟩;have B2:Below w.heap.size w w2:=BW2.trans (b2.mono BW2.size);clear c8;go_wp2;go_ret;rw[FIN.out];exact ⟨rfl,B2⟩
 ·have hI:((xs.length:Int) != (ys.length:Int))=true:=by simp;omega
  have FIN:Hid (W=false):=by
   show W=_
   rw[HW.out]
   have:decide (xs=ys)=false:=decide_eq_false (fun h3=>hll (by rw[h3]))
   rw[this];rfl
  clear HW hll h1 h2;go_wp2;go_ret;rw[FIN.out];exact ⟨rfl,by rw[<-HB.out];exact B0⟩
theorem keptplan_c (e:Ex)(b0 cap:Nat)(cv:Value)(ao2:Option Addr)(cap2:Nat)(cv2:Value)(cells:List Int)(w:World)(hlen:e.kids.len<=1000000000)(hsh:e.kids.short)(hcl:cells.length<=1000000000)(S:SpnA w e.kids b0 cap)(S2:SnA w e.kids ao2)(hL:LnI w (fun _=>True) cv cells)(hc2:InA w cv2 cells) :
  Calls Tryz.prog 20 #[plV e (some ⟨b0,0,none⟩) cap cv,plV e ao2 cap2 cv2] w fun x w'=>x=.returned (.bool true)/\Below w.heap.size w w':=by
 obtain ⟨g,c,hcv,hL2⟩:=hL;have hL:LnI w (fun _=>True) cv cells:=⟨g,c,hcv,hL2⟩
 subst hcv;obtain ⟨ac2,cc2,hcv2,hx2⟩:=hc2;have hc2:InA w cv2 cells:=⟨ac2,cc2,hcv2,hx2⟩;subst hcv2;clear hL2 hx2;obtain ⟨w0,hw0⟩:∃w0,w0=(w.alloc (.cells #[.int .i64 e.k,.int .i64 e.n,stv e.nm,.slice (some ⟨b0,0,none⟩) e.kids.len cap,.slice (some ⟨g,0,none⟩) cells.length c] 37)).alloc (.cells #[.int .i64 e.k,.int .i64 e.n,stv e.nm,.slice ao2 e.kids.len cap2,.slice ac2 cells.length cc2] 37):=⟨_,rfl⟩;have B0:Below w.heap.size w w0:=by rw[hw0];exact ((Below.refl _ w).alloc (Nat.le_refl _) _).alloc (by simp) _
 have E0:w0.heap[w.heap.size]?=some (.cells #[.int .i64 e.k,.int .i64 e.n,stv e.nm,.slice (some ⟨b0,0,none⟩) e.kids.len cap,.slice (some ⟨g,0,none⟩) cells.length c] 37 (0,0)):=by
  rw[hw0];exact (Below.heap_alloc _ _ _ (by simp)).trans (heap_alloc_new w _)
 have Y0:w0.heap[w.heap.size+1]?=some (.cells #[.int .i64 e.k,.int .i64 e.n,stv e.nm,.slice ao2 e.kids.len cap2,.slice ac2 cells.length cc2] 37 (0,0)):=by
  rw[hw0]
  have:=heap_alloc_new (w.alloc (.cells #[.int .i64 e.k,.int .i64 e.n,stv e.nm,.slice (some ⟨b0,0,none⟩) e.kids.len cap,.slice (some ⟨g,0,none⟩) cells.length c] 37)) (.cells #[.int .i64 e.k,.int .i64 e.n,stv e.nm,.slice ao2 e.kids.len cap2,.slice ac2 cells.length cc2] 37)
  simpa using this
 have S0:=SpnA.below S B0;have T0:=SnA.below S2 B0;have L0:=hL.below B0;have I0:=hc2.below B0;have c1:=numbers_c w0 _ _ cells cells L0.inA I0 hcl;rw[decide_eq_true rfl] at c1;rw[plV_out,plV_out];go_enter Tryz.func20,Tryz.ntmps20;go_upto_region 1 with fail;rw[<-hw0];clear hw0;obtain ⟨bx,hbx⟩:∃bx,bx=w.heap.size:=⟨_,rfl⟩;rw[<-hbx] at E0 Y0 B0 ⊢;have HB:Hid (bx=w.heap.size):=hbx;clear hbx S S2 hL hc2 I0;obtain ⟨p0,p1,p2,p3,p4,pf⟩:=box5 E0;obtain ⟨q0,q1,q2,q3,q4,qf⟩:=box5 Y0;go_wp2_with fail;refine c1.mono ?_;rintro x w1 ⟨rfl,b1⟩;have E1:=(b1.block _ (lt_of_block E0)).trans E0;have Y1:=(b1.block _ (lt_of_block Y0)).trans Y0;have S1:=SpnA.below S0 b1;have T1:=SnA.below T0 b1;have L1:=L0.below b1;have B1:Below bx w w1:=B0.trans (b1.mono (by have:=lt_of_block E0;omega))
 clear c1 b1 E0 Y0 S0 T0 L0 B0 p0 p1 p2 p3 p4 pf q0 q1 q2 q3 q4 qf;obtain ⟨p0,p1,p2,p3,p4,pf⟩:=box5 E1;obtain ⟨q0,q1,q2,q3,q4,qf⟩:=box5 Y1;have c2:=keptn_ok (e.kids.size+1) e b0 cap ao2 cap2 w1 (by omega) hlen hsh S1 T1
 rw[exN_out,exN_out] at c2;go_wp2_with fail;refine c2.mono ?_;rintro x w2 ⟨rfl,b2⟩;have E2:=(b2.block _ (lt_of_block E1)).trans E1;have L2:=L1.below b2;have B2:Below bx w w2:=B1.trans (b2.mono (by have:=lt_of_block E1;omega))
 clear c2 b2 E1 Y1 S1 T1 L1 B1 p0 p1 p2 p3 p4 pf q0 q1 q2 q3 q4 qf;obtain ⟨p0,p1,p2,p3,p4,pf⟩:=box5 E2;obtain ⟨g',c',hv,-,hlt,h1,h2,-,h7⟩:=L2;injection hv with hv1 hv2 hv3
 injection hv1 with hv1
 injection hv1 with hv1
 subst hv1;subst hv3;have h1I:(cells.length:Int)+1<=(c:Int):=by omega
 have hcm:c<=9223372036854775807:=h2;have hw1:IntKind.i64.wrap ((cells.length:Int)+1)=(cells.length:Int)+1:=by rw[IntKind.wrap_i64];omega
 have hlt1:(cells.length:Int)<(cells.length:Int)+1:=by omega
 clear hv2;go_upto_region 3 with fail
 go_quiet (fail)
 go_wp2;go_ret;exact ⟨rfl,by rw[<-HB.out];exact bdr B2 nq⟩
def DeadN (cur:Array Value)(j:Nat):Prop :=
 ∃(x y:Int) (s:ByteArray),cur[j*4]?=some (.int .i64 x)/\cur[j*4+1]?=some (.int .i64 y)/\cur[j*4+2]?=some (.string s)/\cur[j*4+3]?=some (.slice none 0 0)
def SameN (cur cur':Array Value)(j:Nat):Prop:=∀ t,t<4->cur'[j*4+t]?=cur[j*4+t]?
theorem DeadN.same {cur cur':Array Value}{j:Nat}(h:DeadN cur j)(s:SameN cur cur' j):DeadN cur' j:=by
 obtain ⟨x,y,st,h0,h1,h2,h3⟩:=h;exact ⟨x,y,st,(s 0 (by decide)).trans h0,(s 1 (by decide)).trans h1,(s 2 (by decide)).trans h2,(s 3 (by decide)).trans h3⟩
structure OvN (n0 m s:Nat)(w w':World):Prop where
 os:w'.os=w.os
 tape:w'.tape=w.tape
 output:w'.output=w.output
 size:w.heap.size<=w'.heap.size
 blk:∀ k,k<s->(k<n0\/m<=k)->w'.heap[k]?=w.heap[k]?
 lst:∀ k cur,n0<=k->k<m->w.heap[k]?=some (.cells cur 34 (0,0))->∃cur',w'.heap[k]?=some (.cells cur' 34 (0,0))/\cur'.size=cur.size/\∀ j,SameN cur cur' j\/DeadN cur' j
 oth:∀ k ob,k<s->w.heap[k]?=some ob->(∀ cur,ob≠.cells cur 34 (0,0))->w'.heap[k]?=some ob
theorem OvN.trans {n0 m s:Nat}{a b c:World}(h:OvN n0 m s a b)(k:OvN n0 m s b c):OvN n0 m s a c:=by
 refine ⟨k.os.trans h.os,k.tape.trans h.tape,k.output.trans h.output,Nat.le_trans h.size k.size,fun i hi hn=>(k.blk i hi hn).trans (h.blk i hi hn),fun i cur h0 h1 h2=>?_,fun i ob hi h2 hn=>k.oth i ob hi (h.oth i ob hi h2 hn) hn⟩
 obtain ⟨c1,h3,h4,h5⟩:=h.lst i cur h0 h1 h2;obtain ⟨c2,h6,h7,h8⟩:=k.lst i c1 h0 h1 h3;refine ⟨c2,h6,h7.trans h4,fun j=>?_⟩
 rcases h8 j with h9|h9
 ·rcases h5 j with h10|h10
  ·exact .inl fun t ht=>(h9 t ht).trans (h10 t ht)
  ·exact .inr (h10.same h9)
 ·exact .inr h9
theorem OvN.low {n0 m s s':Nat}{w w':World}(h:OvN n0 m s' w w')(hs:s<=s'):OvN n0 m s w w':=⟨h.os,h.tape,h.output,h.size,fun k hk hn=>h.blk k (by omega) hn,h.lst,fun k ob hk h2 hn=>h.oth k ob (by omega) h2 hn⟩
theorem OvN.ofBelow {n0 m s:Nat}{w w':World}(h:Below s w w')(hm:m<=s):OvN n0 m s w w' :=
 ⟨h.os,h.tape,h.output,h.size,fun k hk _=>h.block k hk,fun k cur h0 h1 h2=>⟨cur,(h.block k (by omega)).trans h2,rfl,fun j=>.inl fun t _=>rfl⟩,fun k ob hk h2 _=>(h.block k hk).trans h2⟩
def GwN (n0 m:Nat)(w:World):Fs->Array Value->Nat->Prop
 | ⟨none⟩,_,_=>True
 | ⟨some ⟨k,n,nm,a,ks,r⟩⟩,cur,i =>
  (DeadN cur i\/∃ao cap,(cur[i*4]?=some (.int .i64 k)/\cur[i*4+1]?=some (.int .i64 n)/\cur[i*4+2]?=some (stv nm)/\cur[i*4+3]?=some (.slice ao ks.len cap)) /\
   ((ks=.nil/\ao=none/\cap=0)\/∃b cur2,ao=some ⟨b,0,none⟩/\n0<=b/\b<m/\ks.len<=cap/\w.heap[b]?=some (.cells cur2 34 (0,0))/\cur2.size=cap*4/\GwN n0 m w ks cur2 0))/\GwN n0 m w r cur (i+1)
def SwN (n0 m:Nat)(w:World)(ks:Fs)(ao:Option Addr)(cap:Nat):Prop :=
 (ks=.nil/\ao=none/\cap=0)\/∃b cur2,ao=some ⟨b,0,none⟩/\n0<=b/\b<m/\ks.len<=cap/\w.heap[b]?=some (.cells cur2 34 (0,0))/\cur2.size=cap*4/\GwN n0 m w ks cur2 0
theorem GwN.ov {n0 m s:Nat}{w w':World}(o:OvN n0 m s w w'):∀ {f:Fs}{cur cur':Array Value}{i:Nat},(∀ j,SameN cur cur' j\/DeadN cur' j)->GwN n0 m w f cur i->GwN n0 m w' f cur' i
 | ⟨none⟩,cur,cur',i,hc,h=>trivial
 | ⟨some ⟨k,n,nm,a,ks,r⟩⟩,cur,cur',i,hc,h=>by
  refine ⟨?_,GwN.ov o hc h.2⟩;rcases hc i with hs|hd
  ·rcases h.1 with h1|⟨ao,cap,⟨g0,g1,g2,g3⟩,h2⟩
   ·exact .inl (h1.same hs)
   ·refine .inr ⟨ao,cap,⟨(hs 0 (by decide)).trans g0,(hs 1 (by decide)).trans g1,(hs 2 (by decide)).trans g2,(hs 3 (by decide)).trans g3⟩,?_⟩
    rcases h2 with h2|⟨b,c2,rfl,h3,h4,h5,h6,h7,h8⟩
    ·exact .inl h2
    ·obtain ⟨c3,h9,h10,h11⟩:=o.lst b c2 h3 h4 h6;exact .inr ⟨b,c3,rfl,h3,h4,h5,h9,h10.trans h7,GwN.ov o h11 h8⟩
  ·exact .inl hd
theorem SwN.ov {n0 m s:Nat}{w w':World}{f:Fs}{ao:Option Addr}{cap:Nat}(h:SwN n0 m w f ao cap)(o:OvN n0 m s w w'):SwN n0 m w' f ao cap:=by
 rcases h with h|⟨b,c2,rfl,h3,h4,h5,h6,h7,h8⟩
 ·exact .inl h
 ·obtain ⟨c3,h9,h10,h11⟩:=o.lst b c2 h3 h4 h6;exact .inr ⟨b,c3,rfl,h3,h4,h5,h9,h10.trans h7,GwN.ov o h11 h8⟩
theorem GwN.at {n0 m:Nat}{w:World}:∀ {d r:Fs}{cur:Array Value}{i:Nat},GwN n0 m w (d.app r) cur i->GwN n0 m w r cur (i+d.len)
 | ⟨none⟩,r,cur,i,h=>h
 | ⟨some ⟨k,n,nm,a,ks,d⟩⟩,r,cur,i,h=>by
  have h2:=GwN.at (d:=d) h.2;rw[show i+1+d.len=i+(d.len+1) by omega] at h2
  exact h2
theorem FcNC.gw {n0:Nat}{w:World}:∀ {f:Fs}{xs:List Value}{cur:Array Value}{i:Nat},FcNC w (Nw n0) f xs->(∀ (j:Nat) (u:Value),xs[j]?=some u->cur[i*4+j]?=some u)->GwN n0 w.heap.size w f cur i
 | ⟨none⟩,xs,cur,i,h,hc=>trivial
 | ⟨some ⟨k,n,nm,a,ks,r⟩⟩,xs,cur,i,h,hc=>by
  obtain ⟨ao,cap,ys,rfl,h1,h2⟩:=h;refine ⟨.inr ⟨ao,cap,⟨hc 0 _ rfl,hc 1 _ rfl,hc 2 _ rfl,hc 3 _ rfl⟩,?_⟩,FcNC.gw h2 (fun j u hu=>?_)⟩
  ·rcases h1 with h1|⟨b,zs,c2,rfl,hp,hlt,h4,h5,h6,h7,h3⟩
   ·exact .inl h1
   ·exact .inr ⟨b,c2,rfl,hp,hlt,h4,h5,h6,FcNC.gw h3 (fun j u hu=>by rw[Nat.zero_mul,Nat.zero_add];exact h7 j u hu)⟩
  ·rw[show (i+1)*4+j=i*4+(j+4) by omega]
   exact hc (j+4) u (by simpa using hu)
theorem SlcN.sw {n0:Nat}{w:World}{f:Fs}{ao:Option Addr}{cap:Nat}(h:SlcN w (Nw n0) f ao cap):SwN n0 w.heap.size w f ao cap:=by
 rcases h with h1|⟨b,zs,c2,rfl,hp,hlt,h4,h5,h6,h7,h3⟩
 ·exact .inl h1
 ·exact .inr ⟨b,c2,rfl,hp,hlt,h4,h5,h6,h3.gw (fun j u hu=>by rw[Nat.zero_mul,Nat.zero_add];exact h7 j u hu)⟩
theorem OvN.row {n0 m s:Nat}{w:World}{b:Nat}{cur:Array Value}(hb0:n0<=b)(hb1:b<m)(h:w.heap[b]?=some (.cells cur 34 (0,0)))(w':World)(cur':Array Value)(ho:w'.os=w.os)(ht:w'.tape=w.tape)(hp:w'.output=w.output)(hs:w.heap.size<=w'.heap.size)
  (hother:∀ k,k≠b->w'.heap[k]?=w.heap[k]?) (h':w'.heap[b]?=some (.cells cur' 34 (0,0))) (hsz:cur'.size=cur.size) (hg:∀ j,SameN cur cur' j\/DeadN cur' j):OvN n0 m s w w':=by
 refine ⟨ho,ht,hp,hs,fun k _ hk=>hother k (by omega),fun k c h0 h1 h2=>?_,fun k ob hk h2 hn=>(hother k (fun e=>by rw[e,h] at h2;injection h2 with h2;exact hn cur h2.symm)).trans h2⟩
 by_cases hk:k=b
 ·subst hk;rw[h] at h2;injection h2 with h2
  injection h2 with h2
  subst h2;exact ⟨cur',h',hsz,hg⟩
 ·exact ⟨c,(hother k hk).trans h2,rfl,fun j=>.inl fun t _=>rfl⟩
def overN (cur:Array Value)(i:Nat)(v0 v1 v2 v3:Value):Array Value:=(((cur.setIfInBounds (i*4) v0).setIfInBounds (i*4+1) v1).setIfInBounds (i*4+2) v2).setIfInBounds (i*4+3) v3
theorem set4n_heap {w:World}{b:Nat}{cur:Array Value}{t:TypeId}(i:Nat)(v0 v1 v2 v3:Value)(h:w.heap[b]?=some (.cells cur t (0,0))) :
  ((((w.setCell ⟨b,i*4,none⟩ v0).setCell ⟨b,i*4+1,none⟩ v1).setCell ⟨b,i*4+2,none⟩ v2).setCell ⟨b,i*4+3,none⟩ v3).heap[b]?=some (.cells (overN cur i v0 v1 v2 v3) t (0,0)) :=
 heap_setCell_same _ b _ _ t v3 (heap_setCell_same _ b _ _ t v2 (heap_setCell_same _ b _ _ t v1 (heap_setCell_same _ b _ _ t v0 h)))
theorem overN_size (cur:Array Value)(i:Nat)(v0 v1 v2 v3:Value):(overN cur i v0 v1 v2 v3).size=cur.size:=by simp[overN]
theorem overN_other {cur:Array Value}{i:Nat}{v0 v1 v2 v3:Value}{k:Nat}(h:k<i*4\/i*4+4<=k):(overN cur i v0 v1 v2 v3)[k]?=cur[k]?:=by
 unfold overN;rw[Array.getElem?_setIfInBounds_ne (by omega),Array.getElem?_setIfInBounds_ne (by omega),Array.getElem?_setIfInBounds_ne (by omega),Array.getElem?_setIfInBounds_ne (by omega)]
theorem overN_dead {cur:Array Value}{i:Nat}(x y:Int)(s:ByteArray)(h:i*4+4<=cur.size):DeadN (overN cur i (.int .i64 x) (.int .i64 y) (.string s) (.slice none 0 0)) i:=by
 refine ⟨x,y,s,?_,?_,?_,?_⟩ <;> unfold overN
 ·rw[Array.getElem?_setIfInBounds_ne (by omega),Array.getElem?_setIfInBounds_ne (by omega),Array.getElem?_setIfInBounds_ne (by omega),Array.getElem?_setIfInBounds_self_of_lt (by omega)]
 ·rw[Array.getElem?_setIfInBounds_ne (by omega),Array.getElem?_setIfInBounds_ne (by omega),Array.getElem?_setIfInBounds_self_of_lt (by simp;omega)]
 ·rw[Array.getElem?_setIfInBounds_ne (by omega),Array.getElem?_setIfInBounds_self_of_lt (by simp;omega)]
 ·rw[Array.getElem?_setIfInBounds_self_of_lt (by simp;omega)]
theorem OvN.set4 {n0 m s:Nat}{w:World}{b:Nat}{cur:Array Value}{i:Nat}(x y:Int)(st:ByteArray)(hb0:n0<=b)(hb1:b<m)(h:w.heap[b]?=some (.cells cur 34 (0,0)))(hi:i*4+4<=cur.size) :
  OvN n0 m s w ((((w.setCell ⟨b,i*4,none⟩ (.int .i64 x)).setCell ⟨b,i*4+1,none⟩ (.int .i64 y)).setCell ⟨b,i*4+2,none⟩ (.string st)).setCell ⟨b,i*4+3,none⟩ (.slice none 0 0)):=by
 have B:=((((Below.refl 0 w).setCell (p:=⟨b,i*4,none⟩) (Nat.zero_le _) (.int .i64 x)).setCell (p:=⟨b,i*4+1,none⟩) (Nat.zero_le _) (.int .i64 y)).setCell (p:=⟨b,i*4+2,none⟩) (Nat.zero_le _) (.string st)).setCell (p:=⟨b,i*4+3,none⟩) (Nat.zero_le _) (.slice none 0 0);refine OvN.row hb0 hb1 h _ (overN cur i (.int .i64 x) (.int .i64 y) (.string st) (.slice none 0 0)) B.os B.tape B.output B.size (fun k hk=>?_) (set4n_heap i _ _ _ _ h) (overN_size _ _ _ _ _ _) (fun j=>?_)
 ·exact (heap_setCell_other _ ⟨b,i*4+3,none⟩ k _ hk).trans ((heap_setCell_other _ ⟨b,i*4+2,none⟩ k _ hk).trans ((heap_setCell_other _ ⟨b,i*4+1,none⟩ k _ hk).trans (heap_setCell_other _ ⟨b,i*4,none⟩ k _ hk)))
 ·by_cases hj:j=i
  ·subst hj;exact .inr (overN_dead x y st hi)
  ·exact .inl fun t ht=>overN_other (by omega)
def AppN (w:World)(e:TypeId)(ao:Option Addr)(n:Nat)(news:List Value)(g:Nat)(w':World)(cur':Array Value):Prop :=
 w'.heap[g]?=some (.cells cur' e (0,0))/\(∀ (t:Nat) (u:Value),news[t]?=some u->cur'[n*4+t]?=some u) /\
  ((∃cur,ao=some ⟨g,0,none⟩/\w.heap[g]?=some (.cells cur e (0,0))/\w'=w.setRow g cur'/\cur'.size=cur.size/\∀ j,(j<n*4\/n*4+4<=j)->cur'[j]?=cur[j]?)\/(g=w.heap.size/\Below w.heap.size w w'))
theorem append_on {P:Program}(w:World)(t ty e:TypeId)(i:TypeInfo)(z:Value)(bytes:Nat)(ht:P.underlying t=some (.slice e))(hi:P.info? e=some i)(hz:i.zero=some z)(hsize:i.size=4)(hby:i.bytes=bytes)(hzs:z.cells.size=4)
  (ao:Option Addr) (n cap:Nat) (hv:(n=0/\ao=none/\cap=0)\/∃b cur,ao=some ⟨b,0,none⟩/\n<=cap/\w.heap[b]?=some (.cells cur e (0,0))/\cur.size=cap*4)
  (ad:Addr) (news:List Value) (hl:news.length=4) (hnews:∀ j u,news[j]?=some u->w.cell? (ad.add j)=some u) (h1:∀ u ∈ news,u.oneCell'=true)
  (hn:n+1<=maxLen) (hbytes:(n+1)*bytes<=140737488355328) :
  ∃g cap' w' cur',(Builtin.append_ #[t,t] ty #[.slice ao n cap,.slice (some ad) 1 1]).run P w=.ok (.slice (some ⟨g,0,none⟩) (n+1) cap') w'/\AppN w e ao n news g w' cur':=by
 have h63:n+1<=9223372036854775807:=by simp only[maxLen] at hn;omega
 subst hby;rcases hv with ⟨rfl,rfl,rfl⟩|⟨b,cur,rfl,hnc,hb,hsz⟩
 ·have hr:=run_append_nil (P:=P) w t ty e i z ht hi hz ad 1 1 news (by rw[hl,hsize]) hnews (by omega) (by omega) (by simp only[Nat.zero_add] at hbytes;omega)
  refine ⟨_,_,_,_,hr,heap_alloc_new w.drew _,fun t' u hu=>?_,.inr ⟨rfl,?_⟩⟩
  ·rw[Nat.zero_mul,Nat.zero_add,Array.getElem?_append_left (by have:=(List.getElem?_eq_some_iff.1 hu).1;simpa using this)]
   simpa using hu
  ·exact (show Below w.heap.size w w.drew from ⟨rfl,rfl,rfl,Nat.le_refl _,fun _ _=>rfl⟩).alloc (Nat.le_refl _) _
 ·by_cases hroom:n+1<=cap
  ·have hfit:n*i.size+news.length<=cur.size:=by rw[hl,hsz,hsize];omega
   have hr:=run_append_room (P:=P) w t ty e i ht hi b n cap cur hb ad 1 1 news (by rw[hl,hsize]) hnews h1 hroom hfit
   have hlt:(cur.toList.take (n*i.size)).length=n*4:=by rw[List.length_take,hsize];simp;omega
   refine ⟨b,cap,_,_,hr,setRow_heap w b cur _ e (0,0) hb,fun t' u hu=>?_,.inl ⟨cur,rfl,hb,rfl,?_,fun j hj=>?_⟩⟩
   ·have h5:=(List.getElem?_eq_some_iff.1 hu).1;rw[List.getElem?_toArray,List.append_assoc,List.getElem?_append_right (by rw[hlt];omega),hlt,List.getElem?_append_left (by omega),show n*4+t' - n*4=t' by omega]
    exact hu
   ·rw[List.size_toArray,List.length_append,List.length_append,List.length_drop,hlt,hl,hsize,Array.length_toList];omega
   ·rw[List.getElem?_toArray,List.append_assoc];rcases hj with hj|hj
    ·rw[List.getElem?_append_left (by rw[hlt];exact hj),List.getElem?_take_of_lt (by rw[hsize];exact hj)]
     simp
    ·rw[List.getElem?_append_right (by rw[hlt];omega),hlt,List.getElem?_append_right (by omega),hl,List.getElem?_drop,hsize]
     rw[show n*4+4+(j - n*4 - 4)=j by omega]
     simp
  ·have holds:∀ j u,(cur.toList.take (n*4))[j]?=some u->w.cell? ((⟨b,0,none⟩:Addr).add j)=some u:=fun j u hu=>by
    have h3:((⟨b,0,none⟩:Addr).add j)=⟨b,j,none⟩:=by simp[Addr.add];exact Eq.symm
    rw[h3,cell_of_row _ b j _ _ (0,0) hb];exact ownCellsN rfl j u hu
   have hlo:(cur.toList.take (n*4)).length=n*i.size:=by rw[List.length_take,hsize];simp;omega
   have hr:=run_append_grow (P:=P) w t ty e i z ht hi hz ⟨b,0,none⟩ n cap (cur.toList.take (n*4)) hlo holds ad 1 1 news (by rw[hl,hsize]) hnews (by omega) (by omega) (growslice_fits (by omega) hbytes)
   refine ⟨_,_,_,_,hr,heap_alloc_new w.drew _,fun t' u hu=>?_,.inr ⟨rfl,?_⟩⟩
   ·have h5:=(List.getElem?_eq_some_iff.1 hu).1;rw[Array.getElem?_append_left (by simp only[Array.size_append,List.size_toArray,hlo,hsize];omega),Array.getElem?_append_right (by simp only[List.size_toArray,hlo,hsize];omega)]
    simp only[List.size_toArray,hlo,hsize];rw[show n*4+t' - n*4=t' by omega]
    simpa using hu
   ·exact (show Below w.heap.size w w.drew from ⟨rfl,rfl,rfl,Nat.le_refl _,fun _ _=>rfl⟩).alloc (Nat.le_refl _) _
theorem wpList_append_on {P:Program}{w:World}{ops:Array Oper}{rest:List Oper}{op:Oper}{a:Act}{Q:Exit->Act->World->Prop}(hgd:op.guard=none)(s x:Operand)(t:TypeId)
  (ho:op.op=.call { callee:=.builtin .append,args:=#[s,x],argTypes:=#[t,t] })
  (e:TypeId) (i:TypeInfo) (z:Value) (bytes:Nat) (ht:P.underlying t=some (.slice e)) (hi:P.info? e=some i) (hz:i.zero=some z) (hsize:i.size=4) (hby:i.bytes=bytes) (hzs:z.cells.size=4)
  (ao:Option Addr) (n cap:Nat) (hs:a.eval s=.slice ao n cap) (hv:(n=0/\ao=none/\cap=0)\/∃b cur,ao=some ⟨b,0,none⟩/\n<=cap/\w.heap[b]?=some (.cells cur e (0,0))/\cur.size=cap*4)
  (ad:Addr) (news:List Value) (hx:a.eval x=.slice (some ad) 1 1) (hl:news.length=4) (hnews:∀ j u,news[j]?=some u->w.cell? (ad.add j)=some u) (h1:∀ u ∈ news,u.oneCell'=true)
  (hn:n+1<=maxLen) (hbytes:(n+1)*bytes<=140737488355328)
  (h:∀ g cap' w' cur',AppN w e ao n news g w' cur'->wpList P ops Q rest (a.put op.dst (.slice (some ⟨g,0,none⟩) (n+1) cap')) w'):wpList P ops Q (op::rest) a w:=by
 refine wpList_plain hgd fun _ hK=>?_
 obtain ⟨g,cap',w',cur',hr,hR⟩:=append_on (P:=P) w t op.type e i z bytes ht hi hz hsize hby hzs ao n cap hv ad news hl hnews h1 hn hbytes;unfold Oper.wp execOp;simp only[ho,resolve,invoke,builtin,Sem.run_bind,Sem.run_pure,Result.andThen_ok,List.map_toArray,List.map_cons,List.map_nil,hs,hx,hr];exact hK _ _ (h g cap' w' cur' hR)
def PostOn (n0 m:Nat)(w:World)(e:Ending)(w':World):Prop:=e=.returned (.tuple #[])/\OvN n0 m w.heap.size w w'
def OverNOk (N:Nat):Prop:=∀ (x y:Int) (st:ByteArray) (ks:Fs) (ao:Option Addr) (cap n0 m:Nat) (w:World),ks.size<N->ks.len<=1000000000->ks.short->m<=w.heap.size->SwN n0 m w ks ao cap ->
 Calls Tryz.prog 45 #[.agg #[.int .i64 x,.int .i64 y,.string st,.slice ao ks.len cap]] w (PostOn n0 m w)
theorem overn_step {N:Nat}(IH:OverNOk N):OverNOk (N+1):=by
 intro x y st ks ao cap n0 m w hN hlen hsh hm S;obtain ⟨ii,hii,hzi0,hzi1,hzi2⟩:=info_parts infoNode;have B0:Below w.heap.size w (w.alloc (.cells #[.int .i64 x,.int .i64 y,.string st,.slice ao ks.len cap] 34)):=(Below.refl _ w).alloc (Nat.le_refl _) _;have E0:(w.alloc (.cells #[.int .i64 x,.int .i64 y,.string st,.slice ao ks.len cap] 34)).heap[w.heap.size]?=some (.cells #[.int .i64 x,.int .i64 y,.string st,.slice ao ks.len cap] 34):=heap_alloc_new w _;have O0:OvN n0 m w.heap.size w (w.alloc (.cells #[.int .i64 x,.int .i64 y,.string st,.slice ao ks.len cap] 34)):=OvN.ofBelow B0 hm;have HS:Hid (SwN n0 m w ks ao cap):=S;go_enter Tryz.func45,Tryz.ntmps45;go_upto_region 1 with fail;generalize w.alloc (.cells #[.int .i64 x,.int .i64 y,.string st,.slice ao ks.len cap] 34)=w0 at *;obtain ⟨bx,hbx⟩:∃bx,bx=w.heap.size:=⟨_,rfl⟩;unfold PostOn;rw[<-hbx] at E0 O0 hm ⊢;have HB:Hid (bx=w.heap.size):=hbx;clear hbx B0 S;go_wp2
 go_loopw [2] (fun v wr=>∃(d r:Fs),Hid (ks=d.app r)/\v=.int .i64 (d.len:Nat)/\wr.heap[bx]?=some (.cells #[.int .i64 x,.int .i64 y,.string st,.slice ao ks.len cap] 34)/\OvN n0 m bx w wr) (fun v _=>ks.len - (intOf v).toNat)
 case atStart=>exact ⟨.nil,ks,rfl,by show _=Value.int .i64 ((0:Nat):Int);rfl,E0,O0⟩
 case round =>
  clear E0 O0;obtain ⟨d,r,hf,rfl,E1,O1⟩:=hrel;have hlk:ks.len=d.len+r.len:=by rw[hf.out,Fs.len_app]
  obtain ⟨p0,p1,p2,p3,pf⟩:=box4 E1;have hbr:bx<wr.heap.size:=lt_of_block E1;have S1:=HS.out.ov O1;cases r using Fs.on with
  | nil =>
   have hl0:¬(d.len:Int)<(ks.len:Int):=by simp only[Fs.len] at hlk;omega
   have b2:Below wr.heap.size wr (wr.alloc (.cells #[.int .i64 (-2),.int .i64 0,.string ⟨#[]⟩,.slice none 0 0] 34)):=(Below.refl _ wr).alloc (Nat.le_refl _) _;have S2:SwN n0 m (wr.alloc (.cells #[.int .i64 (-2),.int .i64 0,.string ⟨#[]⟩,.slice none 0 0] 34)) ks ao cap:=S1.ov (OvN.ofBelow b2 (by omega) (s:=wr.heap.size))
   have hv:(ks.len=0/\ao=none/\cap=0)\/∃b cur,ao=some ⟨b,0,none⟩/\ks.len<=cap/\(wr.alloc (.cells #[.int .i64 (-2),.int .i64 0,.string ⟨#[]⟩,.slice none 0 0] 34)).heap[b]?=some (.cells cur 34 (0,0))/\cur.size=cap*4:=by
    rcases S2 with h|⟨b,cur,h1,-,-,h4,h5,h6,-⟩
    ·exact .inl ⟨by rw[h.1];rfl,h.2⟩
    ·exact .inr ⟨b,cur,h1,h4,h5,h6⟩
   have hrng:∀ (b:Nat) (cur:Array Value),ao=some ⟨b,0,none⟩->n0<=b/\b<m:=by
    intro b cur hb;rcases S2 with h|⟨b',cur',h1,h2,h3,-⟩
    ·rw[h.2.1] at hb;cases hb
    ·rw[h1] at hb;injection hb with hb
     injection hb with hb
     subst hb;exact ⟨h2,h3⟩
   have OA:OvN n0 m bx w (wr.alloc (.cells #[.int .i64 (-2),.int .i64 0,.string ⟨#[]⟩,.slice none 0 0] 34)):=O1.trans (OvN.ofBelow (b2.mono (Nat.le_of_lt hbr)) hm);have hone:∀ u ∈ [Value.int .i64 (-2),.int .i64 0,.string ⟨#[]⟩,.slice none 0 0],u.oneCell'=true:=by intro u hu;simp at hu;rcases hu with rfl|rfl|rfl|rfl <;> rfl
   have b3:ks.len+1<=maxLen:=by unfold maxLen;omega
   have b4:(ks.len+1)*56<=140737488355328:=by omega
   clear hf hlk S1 S2 O1;go_wp2_with (first|(at_builtin;refine wpList_append_on rfl (.tmp 23) (.tmp 25) 32 rfl 34 ii _ 56 Tryz.underlying32 hii hzi0 hzi1 hzi2 rfl ao ks.len cap rfl hv ⟨wr.heap.size,0,none⟩ [.int .i64 (-2),.int .i64 0,.string ⟨#[]⟩,.slice none 0 0] rfl rfl (new_cells_at wr _ _) hone b3 b4 ?_)|go_in)
   intro g cap2 w3 cur3 R3;have k3:w3.heap[g]?=some (.cells cur3 34 (0,0)):=R3.1;have c4:w3.cell? ⟨g,ks.len*4+1,none⟩=some (.int .i64 0):=(cell_of_row _ g _ _ _ (0,0) k3).trans (R3.2.1 1 _ rfl);have f4:w3.frozen? ⟨g,ks.len*4+1,none⟩=false:=frozen_of_row w3 g _ _ _ k3;have HZ:Hid (OvN n0 m bx w (w3.setCell ⟨g,ks.len*4+1,none⟩ (.int .i64 1))):=by
    refine OA.trans ?_;rcases R3.2.2 with ⟨cur,ha,hcb,hw3,hcs,hsame⟩|⟨hg,hb⟩
    ·obtain ⟨hg0,hg1⟩:=hrng g cur ha;have h5:∀ (t:Nat) (u:Value),[Value.int .i64 (-2),.int .i64 0,.string ⟨#[]⟩,.slice none 0 0][t]?=some u->cur3[ks.len*4+t]?=some u:=R3.2.1;have hsz4:ks.len*4+1<cur3.size:=(Array.getElem?_eq_some_iff.1 (h5 1 _ rfl)).1;refine OvN.row hg0 hg1 hcb _ (cur3.setIfInBounds (ks.len*4+1) (.int .i64 1)) ?_ ?_ ?_ ?_ (fun k hk=>?_) (heap_setCell_same w3 g _ _ _ _ k3) (by simpa using hcs) (fun j=>?_)
     ·rw[hw3];rfl
     ·rw[hw3];rfl
     ·rw[hw3];rfl
     ·rw[hw3];simp
     ·rw[heap_setCell_other w3 ⟨g,ks.len*4+1,none⟩ k _ hk,hw3,setRow_other _ g k _ hk]
     ·by_cases hj:j=ks.len
      ·subst hj;refine .inr ⟨-2,1,⟨#[]⟩,?_,?_,?_,?_⟩
       ·rw[Array.getElem?_setIfInBounds_ne (by omega)];exact h5 0 _ rfl
       ·rw[Array.getElem?_setIfInBounds_self_of_lt hsz4]
       ·rw[Array.getElem?_setIfInBounds_ne (by omega)];exact h5 2 _ rfl
       ·rw[Array.getElem?_setIfInBounds_ne (by omega)];exact h5 3 _ rfl
      ·exact .inl fun t ht=>by
        rw[Array.getElem?_setIfInBounds_ne (by omega)]
        exact hsame _ (by omega)
    ·have hbw:bx<=(wr.alloc (.cells #[.int .i64 (-2),.int .i64 0,.string ⟨#[]⟩,.slice none 0 0] 34)).heap.size:=by simp;omega
     exact OvN.ofBelow ((hb.setCell (p:=⟨g,ks.len*4+1,none⟩) (by rw[hg];exact Nat.le_refl _) (.int .i64 1)).mono hbw) hm
   clear R3 k3 OA hv hrng hone;go_wp2
   go_end0
   exact ⟨rfl,by rw[<-HB.out];exact HZ.out⟩
  | cons kk kn km ka kks kr =>
   have hl0:(d.len:Int)<(ks.len:Int):=by simp only[Fs.len] at hlk;omega
   have hl1:d.len<ks.len:=by simp only[Fs.len] at hlk;omega
   have hsz:ks.size=d.size+(kks.size+kr.size+1):=by rw[hf.out,Fs.size_app];rfl
   have hsk:(Fs.cons kk kn km ka kks kr).short:=Fs.app_short (by rw[<-hf.out];exact hsh)
   obtain ⟨b,cur,rfl,hb0,hb1,hlc,hcb,hcs,G1⟩:∃b cur,ao=some ⟨b,0,none⟩/\n0<=b/\b<m/\ks.len<=cap/\wr.heap[b]?=some (.cells cur 34 (0,0))/\cur.size=cap*4/\GwN n0 m wr ks cur 0:=by
    rcases S1 with h|h
    ·have h2:=h.1;rw[h2] at hl1;exact absurd hl1 (Nat.not_lt_zero _)
    ·exact h
   have G2:GwN n0 m wr (Fs.cons kk kn km ka kks kr) cur (0+d.len):=GwN.at (d:=d) (by rw[<-hf.out];exact G1)
   rw[Nat.zero_add] at G2;obtain ⟨x',y',s',ks',ao',cap',hks,hks1,hks2,g0,g1,g2,g3,SK⟩:∃(x' y':Int) (s':ByteArray) (ks':Fs) (ao':Option Addr) (cap':Nat),ks'.size<N/\ks'.len<=1000000000/\ks'.short/\cur[d.len*4]?=some (.int .i64 x')/\cur[d.len*4+1]?=some (.int .i64 y')/\cur[d.len*4+2]?=some (.string s')/\cur[d.len*4+3]?=some (.slice ao' ks'.len cap')/\SwN n0 m wr ks' ao' cap':=by
    rcases G2.1 with ⟨x',y',s',g0,g1,g2,g3⟩|⟨ao',cap',⟨g0,g1,g2,g3⟩,hs⟩
    ·exact ⟨x',y',s',.nil,none,0,by show 0<N;omega,by show 0<=_;omega,trivial,g0,g1,g2,g3,.inl ⟨rfl,rfl,rfl⟩⟩
    ·exact ⟨kk,kn,⟨km.toArray⟩,kks,ao',cap',by omega,hsk.2.1,hsk.2.2.1,g0,g1,g2,g3,hs⟩
   have e0:=(cell_of_row _ b (d.len*4) _ _ (0,0) hcb).trans g0;have e1:=(cell_of_row _ b (d.len*4+1) _ _ (0,0) hcb).trans g1;have e2:=(cell_of_row _ b (d.len*4+2) _ _ (0,0) hcb).trans g2;have e3:=(cell_of_row _ b (d.len*4+3) _ _ (0,0) hcb).trans g3;have c1:=IH x' y' s' ks' ao' cap' n0 m wr hks hks1 hks2 (by omega) SK
   have hf2:Hid (ks=(d.snoc ⟨kk,kn,km,ka,kks⟩).app kr):=by show ks=_;rw[hf.out];unfold Fs.snoc;rw[Fs.app_assoc];rfl
   have hl2:(d.len:Int)+1=((d.snoc ⟨kk,kn,km,ka,kks⟩).len:Nat):=by rw[Fs.len_snoc];rfl
   clear hf hlk hsz hsk G1 G2 g0 g1 g2 g3 SK hks hks1 hks2;go_wp2_with fail;refine c1.mono ?_;rintro u w2 ⟨rfl,o2⟩;have E2:=(o2.blk bx hbr (.inr hm)).trans E1;have O2:OvN n0 m bx w w2:=O1.trans (o2.low (Nat.le_of_lt hbr));obtain ⟨cur2,hcb2,hcs2,-⟩:=o2.lst b cur hb0 hb1 hcb;have hi5:d.len*4+4<=cur2.size:=by rw[hcs2,hcs];omega
   have O3:=O2.trans (OvN.set4 (s:=bx) (i:=d.len) (-1) (-1) ⟨#[111,118,101,114]⟩ hb0 hb1 hcb2 hi5);obtain ⟨q0,q1,q2,q3,qf⟩:=box4 E2;have hfz:∀ j,w2.frozen? ⟨b,j,none⟩=false:=fun j=>frozen_of_row w2 b j _ _ hcb2
   have hbne:bx≠b:=by omega
   have E3:((((w2.setCell ⟨b,d.len*4,none⟩ (.int .i64 (-1))).setCell ⟨b,d.len*4+1,none⟩ (.int .i64 (-1))).setCell ⟨b,d.len*4+2,none⟩ (.string ⟨#[111,118,101,114]⟩)).setCell ⟨b,d.len*4+3,none⟩ (.slice none 0 0)).heap[bx]?=some (.cells #[.int .i64 x,.int .i64 y,.string st,.slice (some ⟨b,0,none⟩) ks.len cap] 34 (0,0)) :=
    ((heap_setCell_other _ ⟨b,d.len*4+3,none⟩ bx _ hbne).trans ((heap_setCell_other _ ⟨b,d.len*4+2,none⟩ bx _ hbne).trans ((heap_setCell_other _ ⟨b,d.len*4+1,none⟩ bx _ hbne).trans (heap_setCell_other _ ⟨b,d.len*4,none⟩ bx _ hbne)))).trans E2
   have f0:∃u,w2.cell? ⟨b,d.len*4,none⟩=some u:=⟨_,(cell_of_row _ b (d.len*4) _ _ (0,0) hcb2).trans (Array.getElem?_eq_getElem (by omega))⟩
   have f1:∃u,w2.cell? ⟨b,d.len*4+1,none⟩=some u:=⟨_,(cell_of_row _ b (d.len*4+1) _ _ (0,0) hcb2).trans (Array.getElem?_eq_getElem (by omega))⟩
   have f2:∃u,w2.cell? ⟨b,d.len*4+2,none⟩=some u:=⟨_,(cell_of_row _ b (d.len*4+2) _ _ (0,0) hcb2).trans (Array.getElem?_eq_getElem (by omega))⟩
   have f3:∃u,w2.cell? ⟨b,d.len*4+3,none⟩=some u:=⟨_,(cell_of_row _ b (d.len*4+3) _ _ (0,0) hcb2).trans (Array.getElem?_eq_getElem (by omega))⟩
   obtain ⟨u0,f0⟩:=f0;obtain ⟨u1,f1⟩:=f1;obtain ⟨u2,f2⟩:=f2;obtain ⟨u3,f3⟩:=f3;have HZ:Hid (∃wz,wz=((((w2.setCell ⟨b,d.len*4,none⟩ (.int .i64 (-1))).setCell ⟨b,d.len*4+1,none⟩ (.int .i64 (-1))).setCell ⟨b,d.len*4+2,none⟩ (.string ⟨#[111,118,101,114]⟩)).setCell ⟨b,d.len*4+3,none⟩ (.slice none 0 0))/\OvN n0 m bx w wz/\wz.heap[bx]?=some (.cells #[.int .i64 x,.int .i64 y,.string st,.slice (some ⟨b,0,none⟩) ks.len cap] 34 (0,0))):=⟨_,rfl,O3,E3⟩;clear c1 o2 O1 O2 O3 E1 E2 E3 e0 e1 e2 e3 p0 p1 p2 p3 pf hcb hcs hcb2 hcs2 hi5 hbne S1;go_wp2;obtain ⟨wz,hwz,O4,E4⟩:=HZ.out;clear HZ;rw[<-hwz];exact ⟨⟨_,kr,hf2,rfl,E4,O4⟩,by simp[intOf];omega⟩
theorem overn_ok:∀ N,OverNOk N
 | 0=>fun x y st ks ao cap n0 m w h=>absurd h (Nat.not_lt_zero _)
 | N+1=>overn_step (overn_ok N)
end Go.Proofs.YtaihhnlfcndecaaGreatDoor
