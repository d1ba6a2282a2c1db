import Derived.Test.YtpdfdhkdfkhfkaaDoorGdX
set_option maxRecDepth 100000
set_option maxHeartbeats 8000000
namespace Go.Proofs.YtpdfdhkdfkhfkaaDoor
open Go.ChangeShapes Go.WideShapes Go.ChangeAt Go.RowKit
set_option linter.unusedVariables false
set_option linter.unusedSimpArgs false
theorem em_b {n:Nat}:VwB (emF n):=by
 intro i s h;simp only[emF] at h;rw[List.getElem?_replicate] at h;split at h
 ·simp at h
 ·cases h
theorem em_comes {n:Nat}(h:0<n):comesF 0 ([],0) (0,emF n)=(0,newF n):=by
 unfold comesF;rw[if_pos rfl];exact em_come h
theorem em_q4 (n i:Nat):q4 ((emF n).tb.getD i none) ((emF n).dn.getD i false)=[Value.string ⟨#[]⟩,.int .i64 0,.bool false,.bool false]:=by
 have h1:(emF n).tb.getD i none=none:=by
  simp only[emF];rw[List.getD_eq_getElem?_getD,List.getElem?_replicate];split<;>rfl
 have h2:(emF n).dn.getD i false=false:=by
  simp only[emF];rw[List.getD_eq_getElem?_getD,List.getElem?_replicate];split<;>rfl
 rw[h1,h2];rfl
abbrev zSt:Value:=.agg #[.string ⟨#[]⟩,.int .i64 0,.bool false,.bool false]
theorem made_st (n:Nat):madeCells zSt.cells (n*4)=(stL (emF n)).toArray:=by
 apply Array.toList_inj.1;have hl:(emF n).tb.length=n:=by simp[emF]
 unfold stL;rw[hl];refine fl4_ext (fun _=>q4_len _ _) (by simp[madeCells,Value.cells]) fun i j hi hj=>?_;rw[em_q4];have hk:i*4+j<n*4:=by omega
 have hm:(i*4+j) % 4=j:=by omega
 simp[madeCells,Value.cells,hk,hm]
 match j,hj with
 | 0,_ | 1,_ | 2,_ | 3,_=>rfl
theorem infoStq:(Tryd.prog.info? 51).map (fun i=>(i.zero,i.size,i.bytes))=some (some zSt,4,32):=by kernel_rfl
theorem mk_st (n:Nat)(hn:n<=32768)(w:World):(Instr.makeSlice 46 (.int .i64 (n:Nat)) (.int .i64 (n:Nat))).run Tryd.prog w=.ok (.slice (some ⟨w.heap.size,0,none⟩) n n) (w.alloc (.cells (stL (emF n)).toArray 51)):=by
 obtain⟨ii,hii,hzi0,hzi1,hzi2⟩:=info_parts infoStq
 have:=run_make (P:=Tryd.prog) w 46 51 ii _ Tryd.underlying46 hii hzi0 .i64 .i64 n n (by omega) (Int.le_refl _) (by rw[hzi2];omega) (by omega)
 rw[hzi1] at this;rw[<-made_st];simpa only[Int.toNat_natCast] using this
theorem Row.mk4 {w:World}{o:Nat->Nat}{i:Nat}{e:TypeId}{g n:Nat}{xs:List Value}(h:w.heap[g]?=some (.cells xs.toArray e (0,0)))(hl:xs.length=n*4)(hn:n<=maxLen)(ho:o g=i):Row w o i e 4 (.slice (some ⟨g,0,none⟩) n n) n xs :=
 ⟨⟨hl,.inr ⟨g,n,xs.toArray,rfl,Nat.zero_le _,h,Nat.le_refl _,hn,by simp[hl],by rw[<-hl];simp⟩⟩,fun k hk=>by cases hk;exact ho⟩
theorem set_mark {w:World}{o:Nat->Nat}{vb ls cap:Nat}{p:Pl}{c:Cd}{e k:Nat}{v:Vw}(h:WkM w o vb ls cap p c (e,v))(hk:k<v.tb.length)(hl:v.dn.length=v.tb.length):WkM (w.setCell ⟨ls,k*4+3,none⟩ (.bool true)) o vb ls cap p c (e,markF k v)/\Step I2q w o (w.setCell ⟨ls,k*4+3,none⟩ (.bool true)) o:=by
 have lls:o ls=2:=h.rs.2 _ rfl;have T:Step (fun k=>k=2) w o (w.setCell ⟨ls,k*4+3,none⟩ (.bool true)) o:=(Step.refl _ w o).setCell ⟨ls,k*4+3,none⟩ _ lls;refine⟨⟨h.blk.step T (by decide),?_⟩,T.mono (fun _ h=>Or.inr h)⟩;have r:=h.rs.store (k*4+3) (.bool true);simp only at r;rw[stL_mark v k hk hl] at r;exact r
theorem verifyq_c (w:World)(p:Pl)(c:Cd)(hC:CdW w p c) :
  Calls Tryd.prog 9 #[cdV p c] w fun e w'=>e=.returned (resV (vrfA c))/\Below w.heap.size w w':=by
 obtain⟨g,hg⟩:∃g,g=w.heap.size:=⟨_,rfl⟩
 obtain⟨w1,hw1⟩:∃w1,w1=(w.alloc (.cells (cdA p c) 26)).alloc (.cells #[.int .i64 0,.int .i64 0,.int .i64 0] 29):=⟨_,rfl⟩
 have B1:Below w.heap.size w w1:=by rw[hw1];exact bG2 _ (bG _ _)
 have hs1:w1.heap.size=g+2:=by rw[hw1,hg];simp
 have e0:w1.heap[g]?=some (.cells (cdA p c) 26 (0,0)):=by rw[hw1,hg];exact h2G _ _ _
 have e1:w1.heap[g+1]?=some (.cells #[.int .i64 0,.int .i64 0,.int .i64 0] 29 (0,0)):=by rw[hw1,hg];exact hA2 _ _ _
 have hK1:bx4 p c w1 g:=box4_cells e0;have HR:=rright_c p c w1 (hC.below B1);have HG:=Lib.hid hg;have HX:Hid (∀ w',Below w1.heap.size w1 w'->bx4 p c w' g/\w'.heap[g+1]?=some (.cells #[.int .i64 0,.int .i64 0,.int .i64 0] 29 (0,0))/\Below w.heap.size w w'/\CdW w' p c):=fun w' B =>
  ⟨bx4_below hK1 (by omega) B,(B.block _ (by omega)).trans e1,B1.trans (B.mono B1.size),hC.below (B1.trans (B.mono B1.size))⟩
 obtain⟨q0,q1,q2,q3⟩:=hK1;clear e0 e1 hg;cases hr:rgtB c
 ·rw[hr] at HR;have hv:vrfA c=((0,0,0),180,0):=by unfold vrfA;rw[hr];rfl
  rw[hv];go_enter Tryd.func9,Tryd.ntmps9;go_upto_region 1 with fail;rw[<-hw1,<-HG.out];clear hw1;go_upto_region 3 with (first|(go_at_call 16;refine HR.mono ?_;rintro e w2 ⟨rfl,B2⟩))
  obtain⟨-,h3,B3,-⟩:=HX.out w2 B2;obtain⟨⟨c0,c1,c2⟩,cf⟩:=cells3g h3;have f0:=cf 0;have f1:=cf 1;have f2:=cf 2;have hs:=set3g (x0:=.int .i64 0) (x1:=.int .i64 0) (x2:=.int .i64 0) h3 B3 (by show w.heap.size<=g+1;have:=HG.out;omega);obtain⟨⟨u0,u1,u2⟩,-⟩:=cells3g hs.1;have HBE:=Lib.hid hs.2;clear hs cf h3 B3 B2 HX HR q0 q1 q2 q3;go_wp2;exact bodyPost_ret (v:=resV ((0,0,0),180,0)) (by simp[results,Tryd.results9,go_sem,u0,u1,u2,resV,limV]) rfl ⟨rfl,HBE.out⟩
 ·rw[hr] at HR;have hn:=rgt_lens hr;have hv:vrfA c=verF c (c.ws.length+1) (newF c.ws.length):=by unfold vrfA;rw[if_pos hr]
  obtain⟨R,hR⟩:∃R,R=vrfA c:=⟨_,rfl⟩
  rw[<-hR] at hv ⊢;have HV:=Lib.hid hv.symm;obtain⟨n,hn'⟩:∃n,n=c.ws.length:=⟨_,rfl⟩
  have hn1:0<n:=by omega
  have hn2:n<=32768:=by omega
  have HNN:=Lib.hid hn';have MK:=fun wx=>mk_st n hn2 wx;obtain⟨X,hX⟩:∃X,X=(stL (emF n)).toArray:=⟨_,rfl⟩
  rw[<-hX] at MK;have HXX:=Lib.hid hX;rw[<-hn'] at q0;clear hv hR hX;go_enter Tryd.func9,Tryd.ntmps9;go_upto_region 1 with fail;rw[<-hw1,<-HG.out];clear hw1;go_upto_region 4 with (first|(go_at_call 16;refine HR.mono ?_;rintro e w2 ⟨rfl,B2⟩;obtain⟨⟨q0,q1,q2,q3⟩,h3,B3,C3⟩:=HX.out w2 B2;rw[<-hn'] at q0))
  have MKd:=MK w2.drew;have hcp:=C3
  -- the walk's memory
  obtain⟨ls,hls⟩:∃ls,ls=w2.heap.size:=⟨_,rfl⟩
  obtain⟨w3,hw3⟩:∃w3,w3=((w2.alloc (.cells X 51)).alloc (.cells (wkA p c ls n n 0 0 0 0) 48)).drew:=⟨_,rfl⟩
  obtain⟨o3,ho3⟩:∃o3:Nat->Nat,o3=fun j=>if j<ls then 0 else if j=ls then 2 else if j=ls+1 then 1 else 9:=⟨_,rfl⟩
  have oa:o3 (ls+1)=1:=by rw[ho3];simp
  have ob:o3 ls=2:=by rw[ho3];simp
  have oz:∀ j,j<ls->o3 j=0:=fun j hj=>by rw[ho3];simp[hj]
  have hsw:(w2.alloc (.cells X 51)).heap.size=ls+1:=by rw[hls];simp
  have B23:Below w2.heap.size w2 w3:=by rw[hw3];exact(bG2 _ (bG _ _)).drew
  have hX3:w3.heap[ls]?=some (.cells X 51 (0,0)):=by rw[hw3,hls];exact h2G _ _ _
  have hV3:w3.heap[ls+1]?=some (.cells (wkA p c ls n n 0 0 0 0) 48 (0,0)):=by
   rw[hw3,<-hsw];exact h1G _ _
  have hlen:(emF n).tb.length=n:=by simp[emF]
  have M3:WkM w3 o3 (ls+1) ls n p c (0,emF n):=by
   refine⟨⟨?_,oa⟩,?_⟩
   ·rw[hV3];simp only[hlen];rfl
   ·simp only[hlen];refine Row.mk4 ?_ (by rw[stL_len,hlen]) (by unfold maxLen;omega) ob;rw[hX3,HXX.out]
  have HCW:Hid (∀ w' o',Step I2q w3 o3 w' o'->Below w1.heap.size w1 w'):=fun w' o' S=>by
   have h32:Below w2.heap.size w2 w':=B23.trans ⟨S.os,S.tape,S.output,S.size,fun k hk=>S.block k (Nat.lt_of_lt_of_le hk B23.size) (by rw[oz k (by omega)];decide)⟩;exact B2.trans (h32.mono B2.size)
  have hC3:∀ w' o',Step I2q w3 o3 w' o'->CdW w' p c:=fun w' o' S=>(HX.out w' (HCW.out w' o' S)).2.2.2;have HC1:=comes_c w3 o3 (ls+1) ls n p c (0,emF n) n 0 ([],0) false false (em_ok n) (em_d n) em_b ⟨by simp,by simp,by simp⟩ hn2 (by omega) (by simp) M3;rw[em_comes hn1] at HC1;unfold sV at HC1;have hb0:bs ([],0).1=⟨#[]⟩:=rfl;have e00:(((([],0):St).2:Nat):Int)=0:=rfl;rw[hb0,e00] at HC1;unfold wkA at hw3;rw[<-HNN.out] at hw3;have ez:((0:Nat):Int)=0:=rfl;rw[ez] at hw3;have HW3:=Lib.hid hw3;have HLS:=Lib.hid hls;have HSW:=Lib.hid hsw;have BX:=bG w2 (.cells X 51);have hg2:g<w2.heap.size:=by have:=B2.size;omega
  obtain⟨r0,r1,r2,r3⟩:=bx4_below (w:=w2) ⟨by rw[<-HNN.out];exact q0,q1,q2,q3⟩ hg2 BX.drew;rw[<-HNN.out] at r0;clear hw3 hls hsw hX3 hV3 MK hn' B23 ho3 hlen M3 oa ob hb0 e00 ez hcp h3 BX;go_region;rw[<-HLS.out,<-HW3.out];clear HW3 HXX r0 r1 r2 r3 q0 q1 q2 q3 MKd HLS HSW;have HHC:Hid (∀ w' o',Step I2q w3 o3 w' o'->CdW w' p c):=hC3;have H0:Hid (verF c (n+1) (newF n)=R):=by rw[HNN.out];exact HV.out
  clear hC3 C3 hC;go_upto_region 6 with (first|(go_at_call 17;refine HC1.mono ?_;rintro e w4 ⟨rfl,o4,M4,S4⟩))
  go_wp2_with fail;go_loopg [7] (n*(n+1)+(n+1)) (fun G v7 wr=>∃(at1 m:Nat) (v:Vw) (o':Nat->Nat),v7=.int .i64 (at1:Nat)/\at1<=n/\und v<m/\und v*(n+1)+(n-at1)<G/\VwOk n v/\VwD v/\VwB v/\(∀ j,j<at1->waits v j=false)/\Hid (verF c m v=R)/\WkM wr o' (ls+1) ls n p c (0,v)/\Step I2q w3 o3 wr o')
  case atStart =>
   exact⟨0,n+1,newF n,o4,by go_num,by omega,by rw[und_new];omega,by rw[und_new];omega,new_ok,new_d,new_b,fun j hj=>by omega,H0,M4,S4⟩
  case round =>
   obtain⟨at1,m,v,o',rfl,hat,hum,hG,V,D,B,hno,HF,M,S⟩:=hrel;have BW:=HCW.out wr o' S;obtain⟨-,h3,B3',C3⟩:=HX.out wr BW;obtain⟨⟨-,-,-,-,a4,a5,a6,a7,a8⟩,af⟩:=cells9q M.blk.1;simp only at a4 a5 a6 a7 a8;have hge:w.heap.size<=g+1:=by have:=HG.out;omega
   have hvl:=V.tl;rw[hvl] at a4;obtain⟨⟨c0,c1,c2⟩,cf⟩:=cells3g h3;have f0:=cf 0;have f1:=cf 1;have f2:=cf 2;by_cases hlt:at1<n
   case neg =>
    have hltI:¬(at1:Int)<(n:Int):=by omega
    have hfin:R=finF v:=by
     rw[<-HF.out];exact verF_none (nxt_no fun j hj=>hno j (by omega))
    by_cases ek:v.kd=0
    ·have hfin2:R=((0,0,0),201,0):=by rw[hfin];unfold finF;rw[if_pos ek]
     rw[ek] at a7;have hs:=set3g (x0:=.int .i64 0) (x1:=.int .i64 0) (x2:=.int .i64 0) h3 B3' hge;obtain⟨⟨u0,u1,u2⟩,-⟩:=cells3g hs.1;have HBE:=Lib.hid hs.2;have HF2:=Lib.hid hfin2;clear hs cf h3 B3' BW HX HR hfin hfin2 M af S C3 HCW HHC hno V D B hum hG HF ek hvl;go_wp2;exact bodyPost_ret (v:=resV ((0,0,0),201,0)) (by simp[results,Tryd.results9,go_sem,u0,u1,u2,resV,limV]) rfl ⟨by rw[HF2.out],HBE.out⟩
    ·have hfin2:R=((v.st,v.rd,v.kd),0,0):=by rw[hfin];unfold finF;rw[if_neg ek]
     have ekI:¬((v.kd:Nat):Int)=0:=by omega
     have hs:=set3g (x0:=.int .i64 (v.st:Nat)) (x1:=.int .i64 (v.rd:Nat)) (x2:=.int .i64 (v.kd:Nat)) h3 B3' hge;obtain⟨⟨u0,u1,u2⟩,-⟩:=cells3g hs.1;have HBE:=Lib.hid hs.2;have HF2:=Lib.hid hfin2;clear hs cf h3 B3' BW HX HR hfin hfin2 M af S C3 HCW HHC hno V D B hum hG HF hvl;generalize v.st=st at *;generalize v.rd=rd at *;generalize v.kd=kd at *;go_wp2_with fail;go_region;go_wp2;exact bodyPost_ret (v:=resV ((st,rd,kd),0,0)) (by simp[results,Tryd.results9,go_sem,u0,u1,u2,resV,limV]) rfl ⟨by rw[HF2.out],HBE.out.drew⟩
   case pos =>
   have hltI:(at1:Int)<(n:Int):=by omega
   have hlv:at1<v.tb.length:=by omega
   obtain⟨gs',cs',hgs,-,-,-,-,hgc,hgf⟩:=M.rs.pos (by show 0<v.tb.length;omega);simp only[Value.slice.injEq,Option.some.injEq,Addr.mk.injEq,and_true,true_and] at hgs;obtain⟨rfl,hcs⟩:=hgs;have l2:=(hgc (at1*4+2) (by simp only;omega)).trans (stL_at v hlv (by decide:2<4));have l3:=(hgc (at1*4+3) (by simp only;omega)).trans (stL_at v hlv (by decide:3<4));have lf3:=hgf (at1*4+3);have hgk:0<gk:=by omega
   have hskip:waits v at1=false->Hid (∃(at2 m:Nat) (v:Vw) (o':Nat->Nat),(at1:Int)+1=(at2:Int)/\at2<=n/\und v<m/\und v*(n+1)+(n-at2)<gk-1/\VwOk n v/\VwD v/\VwB v/\(∀ j,j<at2->waits v j=false)/\Hid (verF c m v=R)/\WkM wr o' (ls+1) ls n p c (0,v)/\Step I2q w3 o3 wr o'):=fun hw =>
    ⟨at1+1,m,v,o',by omega,by omega,hum,by omega,V,D,B,fun j hj=>by
     by_cases e:j=at1
     ·rw[e];exact hw
     ·exact hno j (by omega),HF,M,S⟩
   obtain⟨xq,hxq⟩:∃x,x=v.tb.getD at1 none:=⟨_,rfl⟩
   obtain⟨dq,hdq⟩:∃x,x=v.dn.getD at1 false:=⟨_,rfl⟩
   rw[<-hxq,<-hdq] at l2 l3;cases xq with
   | none =>
    have hw:waits v at1=false:=by unfold waits;rw[<-hxq];rfl
    have HSK:=hskip hw;simp only[q4,List.getElem?_cons_zero,List.getElem?_cons_succ] at l2 l3;clear hskip hxq hdq hw M S HF hno V D B hum hG HX HCW HHC hgc hgf af h3 B3' C3 BW hcs hvl hlv cf lf3 c0 c1 c2 f0 f1 f2;go_wp2
    go_roundg (gk-1)
    case rel =>
     obtain⟨at2,m2,v2,o2,s0,s1⟩:=HSK.out
     (try ((repeat apply Exists.intro);refine⟨?_,rfl⟩));exact⟨at2,m2,v2,o2,by rw[s0],s1⟩
    case measure=>omega
   | some s =>
    simp only[q4,List.getElem?_cons_zero,List.getElem?_cons_succ] at l2 l3;cases dq with
    | true =>
     have hw:waits v at1=false:=by unfold waits;rw[<-hxq,<-hdq];rfl
     have HSK:=hskip hw;clear hskip hxq hdq hw M S HF hno V D B hum hG HX HCW HHC hgc hgf af h3 B3' C3 BW hcs hvl hlv cf lf3 c0 c1 c2 f0 f1 f2;go_wp2
     go_roundg (gk-1)
     case rel =>
      obtain⟨at2,m2,v2,o2,s0,s1⟩:=HSK.out
      (try ((repeat apply Exists.intro);refine⟨?_,rfl⟩));exact⟨at2,m2,v2,o2,by rw[s0],s1⟩
     case measure=>omega
    | false =>
     have hw:waits v at1=true:=by unfold waits;rw[<-hxq,<-hdq];rfl
     have hks:v.tb[at1]?=some (some s):=by
      rw[List.getD_eq_getElem?_getD,List.getElem?_eq_getElem hlv] at hxq;rw[List.getElem?_eq_getElem hlv];simp only[Option.getD_some] at hxq;rw[<-hxq]
     have hnx:nxtF v=some at1:=nxt_at hlv hw hno;have hdl:v.dn.length=v.tb.length:=by rw[V.dl,V.tl]
     have hdn:v.dn.getD at1 false=false:=hdq.symm;have hum2:=und_mark (by omega:at1<v.dn.length) hdn;obtain⟨z1,z2⟩:=set_mark M hlv hdl;obtain⟨w5,hw5⟩:∃w5,w5=wr.setCell ⟨ls,at1*4+3,none⟩ (.bool true):=⟨_,rfl⟩
     rw[<-hw5] at z1 z2;have S5:=S.trans z2;have LK:=looks_c w5 o' (ls+1) ls n p c (markF at1 v) n at1 s hr (mark_ok V) (mark_d D hw) (mark_b B) HNN.out hn2 hks (fun w' o'' S'=>HHC.out w' o'' (S5.trans S')) z1;have hst:stA (markF at1 v) at1=s:=by
      show (v.tb.getD at1 none).getD ([],0)=s;rw[<-hxq];rfl
     have hlf:lookF c at1 (markF at1 v)=lookW c (opN c at1) (aN c at1) (bN c at1) at1 s (markF at1 v):=by unfold lookF;rw[hst]
     have hkc:at1<c.ws.length:=by rw[<-HNN.out];exact hlt
     have Wd:=wdr_of (HHC.out _ _ S5).ok hr hkc;have V2:=lookW_ok hr (k:=at1) Wd (mark_ok (k:=at1) V) (V.sts at1 s hks);have D2:=lookW_d (c:=c) (o:=opN c at1) (a:=aN c at1) (b:=bN c at1) (k:=at1) (s:=s) (mark_d D hw);have B2':=lookW_b (c:=c) (o:=opN c at1) (a:=aN c at1) (b:=bN c at1) (k:=at1) (s:=s) (mark_b (k:=at1) B);rw[<-hlf] at LK V2 D2 B2';obtain⟨m',rfl⟩:∃m',m=m'+1:=⟨m-1,by omega⟩
     have HW5:=Lib.hid hw5;by_cases er:(lookF c at1 (markF at1 v)).1=0
     ·have hvn:verF c m' (lookF c at1 (markF at1 v)).2=R:=by rw[<-HF.out];exact(verF_next hnx er).symm
      have hun:und (lookF c at1 (markF at1 v)).2=und (markF at1 v):=by unfold und;rw[V2.2]
      have hGG:und (lookF c at1 (markF at1 v)).2*(n+1)+(n-0)<gk-1:=by
       rw[hun];rw[<-hum2,Nat.succ_mul] at hG;omega
      have HN:Hid (∀ w6 o6,WkM w6 o6 (ls+1) ls n p c (lookF c at1 (markF at1 v))->Step I2q w5 o' w6 o6->w6.cell? ⟨ls+1,8,none⟩=some (.int .i64 0)/\∃(at2 m:Nat) (v:Vw) (o':Nat->Nat),(0:Int)=(at2:Int)/\at2<=n/\und v<m/\und v*(n+1)+(n-at2)<gk-1/\VwOk n v/\VwD v/\VwB v/\(∀ j,j<at2->waits v j=false)/\Hid (verF c m v=R)/\WkM w6 o' (ls+1) ls n p c (0,v)/\Step I2q w3 o3 w6 o'):=fun w6 o6 M6 S6=>by
       have M6':WkM w6 o6 (ls+1) ls n p c (0,(lookF c at1 (markF at1 v)).2):=by
        have e:lookF c at1 (markF at1 v)=(0,(lookF c at1 (markF at1 v)).2):=by
         rw[<-er]
        rw[e] at M6;exact M6
       obtain⟨⟨-,-,-,-,-,-,-,-,x8⟩,-⟩:=cells9q M6'.blk.1;exact⟨x8,0,m',(lookF c at1 (markF at1 v)).2,o6,rfl,by omega,by omega,hGG,V2.1,D2,B2',fun j hj=>by omega,hvn,M6',S5.trans S6⟩
      clear hskip hxq hdq hw M S HF hno V D B hum hG HX HCW HHC hgc hgf af h3 B3' C3 BW hcs hvl hlv cf c0 c1 c2 f0 f1 f2 z1 z2 S5 hst hlf V2 D2 B2' hvn hun hGG er hks hnx hdl hdn hum2 Wd hkc;generalize lookF c at1 (markF at1 v)=r at *;go_upto_region 11 with fail;rw[<-HW5.out];clear hw5 HW5;go_wp2_with (first|(go_at_call 18;refine LK.mono ?_;rintro e w6 ⟨rfl,o6,M6,S6⟩;obtain⟨x8,hrl⟩:=HN.out w6 o6 M6 S6;have HRL:=Lib.hid hrl;clear LK HN hrl))
      go_roundg (gk-1)
      case rel =>
       obtain⟨at2,m2,v2,o2,s0,s1⟩:=HRL.out
       (try ((repeat apply Exists.intro);refine⟨?_,rfl⟩));exact⟨at2,m2,v2,o2,by rw[<-s0],s1⟩
      case measure=>omega
     ·have hbad:R=((0,0,0),(lookF c at1 (markF at1 v)).1,at1):=by rw[<-HF.out];exact verF_bad hnx er
      have HBAD:Hid (∀ w6 o6,WkM w6 o6 (ls+1) ls n p c (lookF c at1 (markF at1 v))->Step I2q w5 o' w6 o6->∃x:Nat,w6.cell? ⟨ls+1,8,none⟩=some (.int .i64 (x:Nat))/\(¬((x:Nat):Int)=0/\(((x:Nat):Int) != 0)=true)/\R=((0,0,0),x,at1)/\(w6.cell? ⟨g+1,0,none⟩=some (.int .i64 0)/\w6.cell? ⟨g+1,1,none⟩=some (.int .i64 0)/\w6.cell? ⟨g+1,2,none⟩=some (.int .i64 0))/\(∀ j,w6.frozen? ⟨g+1,j,none⟩=false) /\
        ((((w6.setCell ⟨g+1,0,none⟩ (.int .i64 0)).setCell ⟨g+1,1,none⟩ (.int .i64 0)).setCell ⟨g+1,2,none⟩ (.int .i64 0)).cell? ⟨g+1,0,none⟩=some (.int .i64 0)/\(((w6.setCell ⟨g+1,0,none⟩ (.int .i64 0)).setCell ⟨g+1,1,none⟩ (.int .i64 0)).setCell ⟨g+1,2,none⟩ (.int .i64 0)).cell? ⟨g+1,1,none⟩=some (.int .i64 0)/\(((w6.setCell ⟨g+1,0,none⟩ (.int .i64 0)).setCell ⟨g+1,1,none⟩ (.int .i64 0)).setCell ⟨g+1,2,none⟩ (.int .i64 0)).cell? ⟨g+1,2,none⟩=some (.int .i64 0)) /\
        Below w.heap.size w (((w6.setCell ⟨g+1,0,none⟩ (.int .i64 0)).setCell ⟨g+1,1,none⟩ (.int .i64 0)).setCell ⟨g+1,2,none⟩ (.int .i64 0))):=fun w6 o6 M6 S6=>by
       obtain⟨-,h3',B3'',-⟩:=HX.out w6 (HCW.out w6 o6 (S5.trans S6));obtain⟨cc,cf⟩:=cells3g h3';have hs:=set3g (x0:=.int .i64 0) (x1:=.int .i64 0) (x2:=.int .i64 0) h3' B3'' hge;obtain⟨⟨-,-,-,-,-,-,-,-,x8⟩,-⟩:=cells9q M6.blk.1;have erI:¬(((lookF c at1 (markF at1 v)).1:Nat):Int)=0:=by omega
       exact⟨_,x8,⟨erI,bne_iff_ne.2 erI⟩,hbad,cc,cf,(cells3g hs.1).1,hs.2⟩
      clear hskip hxq hdq hw M S HF hno V D B hum hG HX HCW HHC hgc hgf af h3 B3' C3 BW hcs hvl hlv cf c0 c1 c2 f0 f1 f2 z1 z2 S5 hst hlf V2 D2 B2' er hks hnx hdl hdn hum2 Wd hkc hbad;generalize lookF c at1 (markF at1 v)=r at *;go_upto_region 11 with fail;rw[<-HW5.out];clear hw5 HW5;go_upto_region 13 with (first|(go_at_call 18;refine LK.mono ?_;rintro e w6 ⟨rfl,o6,M6,S6⟩;obtain⟨x,x8,⟨hx0,hx1⟩,hRR,⟨c0,c1,c2⟩,cf,⟨u0,u1,u2⟩,BE⟩:=HBAD.out w6 o6 M6 S6;have f0:=cf 0;have f1:=cf 1;have f2:=cf 2;have HRR:=Lib.hid hRR;have HBE:=Lib.hid BE;clear LK HBAD cf hRR BE))
      go_region;go_wp2;exact bodyPost_ret (v:=resV ((0,0,0),x,at1)) (by simp[results,Tryd.results9,go_sem,u0,u1,u2,resV,limV]) rfl ⟨by rw[HRR.out],HBE.out.drew⟩
end Go.Proofs.YtpdfdhkdfkhfkaaDoor
