import Derived.Test.YtpdfdhkdfkhfkaaDoorGdV
set_option maxRecDepth 100000
set_option maxHeartbeats 8000000
namespace Go.Proofs.YtpdfdhkdfkhfkaaDoor
open Go.ChangeShapes Go.WideShapes Go.ChangeAt Go.RowKit
set_option linter.unusedVariables false
set_option linter.unusedSimpArgs false
def limV (l:Nat × Nat × Nat):Value:=.agg #[.int .i64 (l.1:Nat),.int .i64 (l.2.1:Nat),.int .i64 (l.2.2:Nat)]
def resV (r:Res):Value:=.tuple #[limV r.1,.int .i64 (r.2.1:Nat),.int .i64 (r.2.2:Nat)]
theorem cells3g {w:World}{b:Nat}{a0 a1 a2:Value}{t:TypeId}(h:w.heap[b]?=some (.cells #[a0,a1,a2] t (0,0))) :
  (w.cell? ⟨b,0,none⟩=some a0/\w.cell? ⟨b,1,none⟩=some a1/\w.cell? ⟨b,2,none⟩=some a2)/\∀ j,w.frozen? ⟨b,j,none⟩=false:=by
 refine⟨⟨?_,?_,?_⟩,fun j=>frozen_of_row w b j _ t h⟩<;>(rw[cell_of_row w b _ _ t (0,0) h];rfl)
theorem set3g {w w1:World}{b:Nat}{a0 a1 a2 x0 x1 x2:Value}{t:TypeId}(h:w1.heap[b]?=some (.cells #[a0,a1,a2] t (0,0)))(B:Below w.heap.size w w1)(hb:w.heap.size<=b) :
  (((w1.setCell ⟨b,0,none⟩ x0).setCell ⟨b,1,none⟩ x1).setCell ⟨b,2,none⟩ x2).heap[b]?=some (.cells #[x0,x1,x2] t (0,0))/\Below w.heap.size w (((w1.setCell ⟨b,0,none⟩ x0).setCell ⟨b,1,none⟩ x1).setCell ⟨b,2,none⟩ x2) :=
 ⟨heap_setCell_same _ _ 2 _ _ _ (heap_setCell_same _ _ 1 _ _ _ (heap_setCell_same _ _ 0 _ _ _ h)),((B.setCell (p:=⟨b,0,none⟩) hb _).setCell (p:=⟨b,1,none⟩) hb _).setCell (p:=⟨b,2,none⟩) hb _⟩
theorem waits_some {v:Vw}{k:Nat}(h:waits v k=true):∃s,v.tb[k]?=some (some s)/\v.dn.getD k false=false:=by
 unfold waits at h;simp only[Bool.and_eq_true,Bool.not_eq_true'] at h;obtain⟨h1,h2⟩:=h;rw[List.getD_eq_getElem?_getD] at h1;cases hx:v.tb[k]? with
 | none=>rw[hx] at h1;simp at h1
 | some x =>
  rw[hx] at h1;cases x with
  | none=>simp at h1
  | some s=>exact⟨s,rfl,h2⟩
theorem verify_c (w:World)(p:Pl)(c:Cd)(hF:Fx w)(hTz:Tzg w)(hC:CdW w p c) :
  Calls Tryd.prog 11 #[cdV p c] w fun e w'=>e=.returned (resV (vrfA c))/\Below w.heap.size w w':=by
 obtain⟨g,hg⟩:∃g,g=w.heap.size:=⟨_,rfl⟩
 obtain⟨w1,hw1⟩:∃w1,w1=(w.alloc (.cells (cdA p c) 26)).alloc (.cells #[.int .i64 0,.int .i64 0,.int .i64 0] 29):=⟨_,rfl⟩
 have B1:Below w.heap.size w w1:=by rw[hw1];exact bG2 _ (bG _ _)
 have hs1:w1.heap.size=g+2:=by rw[hw1,hg];simp
 have e0:w1.heap[g]?=some (.cells (cdA p c) 26 (0,0)):=by rw[hw1,hg];exact h2G _ _ _
 have e1:w1.heap[g+1]?=some (.cells #[.int .i64 0,.int .i64 0,.int .i64 0] 29 (0,0)):=by rw[hw1,hg];exact hA2 _ _ _
 have hK1:bx4 p c w1 g:=box4_cells e0;have HR:=right_c p c w1 (hF.below B1) (hC.below B1);have HG:=Lib.hid hg
 -- the result's box,whatever lies behind
 have HX:Hid (∀ w',Below w1.heap.size w1 w'->bx4 p c w' g/\w'.heap[g+1]?=some (.cells #[.int .i64 0,.int .i64 0,.int .i64 0] 29 (0,0))/\Below w.heap.size w w'/\Fx w'/\Tzg w'/\CdW w' p c):=fun w' B =>
  ⟨bx4_below hK1 (by omega) B,(B.block _ (by omega)).trans e1,B1.trans (B.mono B1.size),hF.below (B1.trans (B.mono B1.size)),hTz.below (B1.trans (B.mono B1.size)),hC.below (B1.trans (B.mono B1.size))⟩
 obtain⟨q0,q1,q2,q3⟩:=hK1;clear e0 e1 hF hTz hg;cases hr:rgtB c
 ·rw[hr] at HR;have hv:vrfA c=((0,0,0),180,0):=by unfold vrfA;rw[hr];rfl
  rw[hv];go_enter Tryd.func11,Tryd.ntmps11;go_upto_region 1 with fail;rw[<-hw1,<-HG.out];clear hw1;go_upto_region 2 with (first|(go_at_call 19;refine HR.mono ?_;rintro e w2 ⟨rfl,B2⟩))
  obtain⟨-,h3,B3,-,-,-⟩:=HX.out w2 B2;obtain⟨⟨c0,c1,c2⟩,cf⟩:=cells3g h3;have f0:=cf 0;have f1:=cf 1;have f2:=cf 2;have hs:=set3g (x0:=.int .i64 0) (x1:=.int .i64 0) (x2:=.int .i64 0) h3 B3 (by show w.heap.size<=g+1;have:=HG.out;omega);obtain⟨⟨u0,u1,u2⟩,-⟩:=cells3g hs.1;have HBE:=Lib.hid hs.2;clear hs cf h3 B3 B2 HX HR q0 q1 q2 q3;go_wp2;exact bodyPost_ret (v:=resV ((0,0,0),180,0)) (by simp[results,Tryd.results11,go_sem,u0,u1,u2,resV,limV]) rfl ⟨rfl,HBE.out⟩
 ·rw[hr] at HR;have hn:=rgt_lens hr;have hv:vrfA c=verF c (c.ws.length+1) (newF c.ws.length):=by unfold vrfA;rw[if_pos hr]
  obtain⟨R,hR⟩:∃R,R=vrfA c:=⟨_,rfl⟩
  rw[<-hR] at hv ⊢;have HV:=Lib.hid hv.symm;clear hv hR;go_enter Tryd.func11,Tryd.ntmps11;go_upto_region 1 with fail;rw[<-hw1,<-HG.out];clear hw1;go_upto_region 3 with (first|(go_at_call 19;refine HR.mono ?_;rintro e w2 ⟨rfl,B2⟩;obtain⟨⟨q0,q1,q2,q3⟩,h3,B3,F3,T3,C3⟩:=HX.out w2 B2))
  have HN:=newViewer_c w2 p c hr C3;have hdl:0<w2.heap.size:=T3.2;go_upto_region 4 with (first|(go_at_call 20;refine HN.mono ?_;rintro e w3 ⟨vb,z,pb,o3,rfl,M3,B4,L3,hge⟩))
  obtain⟨n,hn'⟩:∃n,n=c.ws.length:=⟨_,rfl⟩
  have hn1:0<n:=by omega
  have hn2:n<=32768:=by omega
  have HNN:=Lib.hid hn'
  -- what stands as long as only the viewer's own blocks turn
  have HW:Hid (∀ w' o',Step I13 w3 o3 w' o'->Below w1.heap.size w1 w'/\o' 0=0):=fun w' o' S=>by
   have h32:Below w2.heap.size w2 w':=B4.trans ⟨S.os,S.tape,S.output,S.size,fun k hk=>S.block k (Nat.lt_of_lt_of_le hk B4.size) (by rw[L3 k hk];decide)⟩;exact⟨B2.trans (h32.mono B2.size),(S.lab _ (Nat.lt_of_lt_of_le hdl B4.size)).trans (L3 _ hdl)⟩
  obtain⟨x1,x2⟩:=HW.out w3 o3 (Step.refl _ _ _);have hX3:=HX.out w3 x1;have HNX:=next_c w3 o3 vb z p c (newF n) pb n new_ok new_d hn2 hn1 hX3.2.2.2.2.1 x2 (by rw[hn'];exact M3);have HREL:Hid (∀ (v:Vw) (m:Nat) e w4 w0 o0 pb0,Step I13 w3 o3 w0 o0->und v<m->VwOk n v->VwD v->verF c m v=R->PostN w0 o0 vb z p c v pb0 e w4 ->
    ∃(k:Nat) (b:Bool),e=.returned (.tuple #[.int .i64 (k:Nat),.bool b])/\∃o' pb',Step I13 w3 o3 w4 o'/\und v<m/\VwOk n v/\VwD v/\verF c m v=R/\((b=false/\nxtF v=none/\VwM w4 o' vb z p c v pb')\/(b=true/\nxtF v=some k/\VwM w4 o' vb z p c (markF k v) pb'))):=fun v m e w4 w0 o0 pb0 S0 hu V D hv ⟨o',S,h⟩=>by
   cases hx:nxtF v with
   | none =>
    rw[hx] at h;exact⟨0,false,h.1,o',pb0,S0.trans S,hu,V,D,hv,.inl ⟨rfl,rfl,h.2⟩⟩
   | some k =>
    rw[hx] at h;exact⟨k,true,h.1,o',pb0,S0.trans S,hu,V,D,hv,.inr ⟨rfl,rfl,h.2⟩⟩
  have H0:Hid (verF c (n+1) (newF n)=R):=by rw[hn'];exact HV.out
  clear hX3 x1 x2 hn' M3 hge;go_wp2_with (first|(go_at_call 21;refine HNX.mono ?_;intro e w4 h;obtain⟨k0,b0,rfl,hrl⟩:=HREL.out _ (n+1) e w4 w3 o3 pb (Step.refl _ _ _) (by rw[und_new];omega) new_ok new_d H0.out h;have HRL:=Lib.hid hrl;clear h hrl HNX H0));go_loopg [6,7] (n+1) (fun m v6 v7 wr=>∃(k:Nat) (b:Bool),v6=.int .i64 (k:Nat)/\v7=.bool b/\∃v o' pb',Step I13 w3 o3 wr o'/\und v<m/\VwOk n v/\VwD v/\Hid (verF c m v=R)/\((b=false/\nxtF v=none/\VwM wr o' vb z p c v pb')\/(b=true/\nxtF v=some k/\VwM wr o' vb z p c (markF k v) pb')))
  case atStart =>
   obtain⟨o',pb',s1,s2,s3,s4,s5,s6⟩:=HRL.out;exact⟨k0,b0,rfl,rfl,newF n,o',pb',s1,s2,s3,s4,s5,s6⟩
  case round =>
   obtain⟨k,b,rfl,rfl,v,o',pb',s1,s2,s3,s4,s5,s6⟩:=hrel;obtain⟨BW,hdz⟩:=HW.out wr o' s1;obtain⟨⟨q0,q1,q2,q3⟩,h3,B3,F3,T3,C3⟩:=HX.out wr BW;have hge:w.heap.size<=g+1:=by have:=HG.out;omega
   rcases s6 with ⟨rfl,hx,M⟩|⟨rfl,hx,M⟩
   ·have hfin:R=finF v:=by rw[<-s5.out];exact verF_none hx
    obtain⟨⟨-,-,-,-,-,-,a6,a7,a8⟩,af⟩:=cells9 M.blk.1;obtain⟨⟨c0,c1,c2⟩,cf⟩:=cells3g h3;have f0:=cf 0;have f1:=cf 1;have f2:=cf 2;by_cases ek:v.kd=0
    ·have hfin2:R=((0,0,0),201,0):=by rw[hfin];unfold finF;rw[if_pos ek]
     rw[ek] at a8;have hs:=set3g (x0:=.int .i64 0) (x1:=.int .i64 0) (x2:=.int .i64 0) h3 B3 hge;obtain⟨⟨u0,u1,u2⟩,-⟩:=cells3g hs.1;have HBE:=Lib.hid hs.2;have HF2:=Lib.hid hfin2;clear hs cf h3 B3 BW HX HR hfin hfin2 HW HREL HRL M af F3 T3 C3 q0 q1 q2 q3 s5 hx a6 a7 ek;go_wp2;exact bodyPost_ret (v:=resV ((0,0,0),201,0)) (by simp[results,Tryd.results11,go_sem,u0,u1,u2,resV,limV]) rfl ⟨by rw[HF2.out],HBE.out⟩
    ·have hfin2:R=((v.st,v.rd,v.kd),0,0):=by rw[hfin];unfold finF;rw[if_neg ek]
     have ekI:¬((v.kd:Nat):Int)=0:=by omega
     have hs:=set3g (x0:=.int .i64 (v.st:Nat)) (x1:=.int .i64 (v.rd:Nat)) (x2:=.int .i64 (v.kd:Nat)) h3 B3 hge;obtain⟨⟨u0,u1,u2⟩,-⟩:=cells3g hs.1;have HBE:=Lib.hid hs.2;have HF2:=Lib.hid hfin2;clear hs cf h3 B3 BW HX HR hfin hfin2 HW HREL HRL M af F3 T3 C3 q0 q1 q2 q3 s5 hx;generalize v.st=st at *;generalize v.rd=rd at *;generalize v.kd=kd at *;go_wp2;exact bodyPost_ret (v:=resV ((st,rd,kd),0,0)) (by simp[results,Tryd.results11,go_sem,u0,u1,u2,resV,limV]) rfl ⟨by rw[HF2.out],HBE.out⟩
   ·obtain⟨hkl,hw,-⟩:=nxt_some hx;obtain⟨s,hks,hdn⟩:=waits_some hw;have hnn:=HNN.out;have hkd:k<v.dn.length:=by rw[s3.dl,<-s3.tl];exact hkl
    have hum:=und_mark hkd hdn;have LK:=look_c wr o' vb z p c (markF k v) pb' n k hr (mark_ok s3) (mark_d s4 hw) hnn C3 F3.tab s hks M;have hst:stA (markF k v) k=s:=by
     show (v.tb.getD k none).getD ([],0)=s;rw[List.getD_eq_getElem?_getD,hks];rfl
    have hlf:lookF c k (markF k v)=lookW c (opN c k) (aN c k) (bN c k) k s (markF k v):=by unfold lookF;rw[hst]
    have hkc:k<c.ws.length:=by rw[<-hnn,<-s3.tl];exact hkl
    have Wd:=wdr_of hC.ok hr hkc;have V2:=lookW_ok hr (k:=k) Wd (mark_ok (k:=k) s3) (s3.sts k s hks);have D2:=lookW_d (c:=c) (o:=opN c k) (a:=aN c k) (b:=bN c k) (k:=k) (s:=s) (mark_d s4 hw);rw[<-hlf] at LK V2 D2;obtain⟨m',rfl⟩:∃m',gk=m'+1:=⟨gk-1,by omega⟩
    by_cases er:(lookF c k (markF k v)).1=0
    ·have hvn:verF c m' (lookF c k (markF k v)).2=R:=by rw[<-s5.out];exact(verF_next hx er).symm
     have hun:und (lookF c k (markF k v)).2=und (markF k v):=by unfold und;rw[V2.2]
     have HNXT:Hid (∀ e w5,PostK wr o' vb z p c (lookF c k (markF k v)) e w5->e=.returned (.int .i64 0)/\Calls Tryd.prog 21 #[.pointer (some ⟨vb,0,none⟩)] w5 fun e w6=>∃(k:Nat) (b:Bool),e=.returned (.tuple #[.int .i64 (k:Nat),.bool b])/\∃v o' pb',Step I13 w3 o3 w6 o'/\und v<m'/\VwOk n v/\VwD v/\Hid (verF c m' v=R)/\((b=false/\nxtF v=none/\VwM w6 o' vb z p c v pb')\/(b=true/\nxtF v=some k/\VwM w6 o' vb z p c (markF k v) pb'))):=fun e w5 ⟨y1,o2,y2,y3⟩=>by
      obtain⟨pb2,M2⟩:=y3 er;have S2:=s1.trans y2;obtain⟨BW2,hd2⟩:=HW.out w5 o2 S2;refine⟨by rw[y1,er];rfl,(next_c w5 o2 vb z p c _ pb2 n V2.1 D2 hn2 hn1 (HX.out w5 BW2).2.2.2.2.1 hd2 M2).mono fun e w6 h=>?_⟩;obtain⟨k',b',h1,o6,pb6,h2⟩:=HREL.out _ m' e w6 w5 o2 pb2 S2 (by omega) V2.1 D2 hvn h;exact⟨k',b',h1,_,o6,pb6,h2⟩
     clear HX HR HW HREL HRL M F3 T3 C3 q0 q1 q2 q3 s5 hx V2 D2 hvn hun hlf hst h3 B3 BW Wd hks hw hum hkd hdn hnn s1 s2 s3 s4 hkl hC;generalize lookF c k (markF k v)=r at *;go_wp2_with (first|(go_at_call 22;refine LK.mono ?_;intro e w5 h;obtain⟨rfl,HN5⟩:=HNXT.out e w5 h;clear LK HNXT h)|(go_at_call 21;refine HN5.mono ?_;rintro e w6 ⟨k6,b6,rfl,hrl⟩;have HRL:=Lib.hid hrl;clear HN5 hrl))
     go_roundg m'
     case rel=>exact⟨k6,b6,rfl,rfl,HRL.out⟩
     case measure=>omega
    ·have hbad:R=((0,0,0),(lookF c k (markF k v)).1,k):=by rw[<-s5.out];exact verF_bad hx er
     have erI:((((lookF c k (markF k v)).1:Nat):Int) != 0)=true:=by simpa using er
     have HBAD:Hid (∀ e w5,PostK wr o' vb z p c (lookF c k (markF k v)) e w5->∃x:Nat,e=.returned (.int .i64 (x:Nat))/\(((x:Nat):Int) != 0)=true/\R=((0,0,0),x,k)/\(w5.cell? ⟨g+1,0,none⟩=some (.int .i64 0)/\w5.cell? ⟨g+1,1,none⟩=some (.int .i64 0)/\w5.cell? ⟨g+1,2,none⟩=some (.int .i64 0))/\(∀ j,w5.frozen? ⟨g+1,j,none⟩=false) /\
       ((((w5.setCell ⟨g+1,0,none⟩ (.int .i64 0)).setCell ⟨g+1,1,none⟩ (.int .i64 0)).setCell ⟨g+1,2,none⟩ (.int .i64 0)).cell? ⟨g+1,0,none⟩=some (.int .i64 0)/\(((w5.setCell ⟨g+1,0,none⟩ (.int .i64 0)).setCell ⟨g+1,1,none⟩ (.int .i64 0)).setCell ⟨g+1,2,none⟩ (.int .i64 0)).cell? ⟨g+1,1,none⟩=some (.int .i64 0)/\(((w5.setCell ⟨g+1,0,none⟩ (.int .i64 0)).setCell ⟨g+1,1,none⟩ (.int .i64 0)).setCell ⟨g+1,2,none⟩ (.int .i64 0)).cell? ⟨g+1,2,none⟩=some (.int .i64 0)) /\
       Below w.heap.size w (((w5.setCell ⟨g+1,0,none⟩ (.int .i64 0)).setCell ⟨g+1,1,none⟩ (.int .i64 0)).setCell ⟨g+1,2,none⟩ (.int .i64 0))):=fun e w5 ⟨y1,o2,y2,y3⟩=>by
      obtain⟨BW2,-⟩:=HW.out w5 o2 (s1.trans y2);obtain⟨-,h3',B3',-,-,-⟩:=HX.out w5 BW2;obtain⟨cc,cf⟩:=cells3g h3';have hs:=set3g (x0:=.int .i64 0) (x1:=.int .i64 0) (x2:=.int .i64 0) h3' B3' hge;exact⟨_,y1,erI,hbad,cc,cf,(cells3g hs.1).1,hs.2⟩
     clear HX HR HW HREL HRL M F3 T3 C3 q0 q1 q2 q3 s5 hx V2 D2 hlf hst h3 B3 BW Wd hks hw hum hkd hdn hnn s1 s2 s3 s4 hC hbad er erI;generalize lookF c k (markF k v)=r at *;have hkI:(k:Int)<=32768:=by omega
     go_wp2_with (first|(go_at_call 22;refine LK.mono ?_;intro e w5 h;obtain⟨x,rfl,hx0,hRR,⟨c0,c1,c2⟩,cf,⟨u0,u1,u2⟩,BE⟩:=HBAD.out e w5 h;have f0:=cf 0;have f1:=cf 1;have f2:=cf 2;have HRR:=Lib.hid hRR;have HBE:=Lib.hid BE;clear LK HBAD h cf hRR BE));exact bodyPost_ret (v:=resV ((0,0,0),x,k)) (by simp[results,Tryd.results11,go_sem,u0,u1,u2,resV,limV]) rfl ⟨by rw[HRR.out],HBE.out⟩
end Go.Proofs.YtpdfdhkdfkhfkaaDoor
