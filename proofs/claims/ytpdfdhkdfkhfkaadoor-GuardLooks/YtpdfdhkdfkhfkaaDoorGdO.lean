import Derived.Test.YtpdfdhkdfkhfkaaDoorGrI
set_option maxRecDepth 100000
set_option maxHeartbeats 8000000
namespace Go.Proofs.YtpdfdhkdfkhfkaaDoor
open Go.ChangeShapes Go.WideShapes Go.ChangeAt Go.RowKit
set_option linter.unusedVariables false
set_option linter.unusedSimpArgs false
theorem halt_c (w:World)(o:Nat->Nat)(vb:Nat)(z:Vp)(p:Pl)(c:Cd)(v:Vw)(pb:Nat->Nat)(n:Nat)(s:St)(V:VwOk n v)(S:StOk s)(hM:VwM w o vb z p c v pb) :
  Calls Tryd.prog 39 #[.pointer (some ⟨vb,0,none⟩),.agg (stC s).toArray] w (PostV w o vb z p c (haltF s v)):=by
 obtain⟨nb,hnb⟩:∃nb,nb=w.heap.size:=⟨_,rfl⟩
 obtain⟨w1,hw1⟩:∃w1,w1=w.alloc (.cells (stC s).toArray 78):=⟨_,rfl⟩
 have B1:Below w.heap.size w w1:=by rw[hw1];exact bG _ _
 have hS1:StB w1 nb s:=by rw[hw1,hnb];exact h1G _ _
 obtain⟨o1,ho1⟩:∃o1,o1=newLab w o 9:=⟨_,rfl⟩
 have hol:o1 nb=9:=by rw[ho1,hnb];exact newLab_new (Nat.le_refl _)
 have S1:∀ {I:Nat->Prop},Step I w o w1 o1:=fun {I}=>by rw[ho1];exact stepNg B1
 have M1:=hM.step (S1 (I:=fun _=>False)) (fun h=>h) (fun h=>h) (fun h=>h) (fun h=>h);have c32:=(blk_cell hS1 32).trans (stC_ht s);have c33:=(blk_cell hS1 33).trans (stC_rd s);have HP:=pop_c nb s w1 S hS1;have HNB:=Lib.hid hnb;clear hnb;generalize hcs:(stC s).toArray=cs at *;have hsl:=S.len;have hsr:=S.rd;by_cases h1:s.1.length=1/\s.2=0
 ·obtain⟨h1,h2⟩:=h1;obtain⟨l,r⟩:=s;simp only at h1 h2;subst h2
  match l,h1 with
  | [k],_ =>
   have hk:=S.kd k (by simp);have hh:haltF ([k],0) v=if v.kd≠0/\v.kd≠k then (202,v) else (0,⟨v.tb,v.dn,v.st,v.rd,k⟩):=by
    unfold haltF;rw[if_pos ⟨rfl,rfl⟩];rfl
   have HQ:Hid (∀ e w2,PostPo nb ([k],0) w1 e w2->e=.returned (.int .i64 (k:Nat))/\Kb nb w1 w2):=fun e w2 h=>by
    obtain⟨K,⟨h,-⟩|⟨l',k',h,h3,-⟩⟩:=h
    ·simp at h
    ·have:l'=[]/\k'=k:=by
      cases l' with
      | nil=>simp at h;exact⟨rfl,h.symm⟩
      | cons a t=>simp at h
     obtain⟨rfl,rfl⟩:=this;exact⟨h3,K⟩
   have hkd:=V.kd;have HZ:Hid (∀ w2,Kb nb w1 w2->w2.cell? ⟨vb,8,none⟩=some (.int .i64 (v.kd:Nat))/\w2.frozen? ⟨vb,8,none⟩=false/\(v.kd≠0/\v.kd≠k->PostV w o vb z p c (haltF ([k],0) v) (.returned (.int .i64 202)) w2) /\
     (¬(v.kd≠0/\v.kd≠k)->PostV w o vb z p c (haltF ([k],0) v) (.returned (.int .i64 0)) (w2.setCell ⟨vb,8,none⟩ (.int .i64 (k:Nat))))):=fun w2 K=>by
    have S2:=K.step o1 (I:=fun k=>k=9) hol;have SW:∀ {I:Nat->Prop},Step I w o w2 o1:=fun {I}=>by rw[ho1];exact stepNg (B1.trans (K.below (by rw[HNB.out];exact Nat.le_refl _) B1.size))
    have M2:=M1.step S2 (by decide) (by decide) (by decide) (by decide);obtain⟨⟨-,-,-,-,-,-,-,-,b8⟩,bf⟩:=cells9 M2.blk.1;refine⟨b8,bf 8,fun h=>?_,fun h=>?_⟩
    ·rw[hh,if_pos h];exact⟨rfl,o1,pb,M2,SW⟩
    ·rw[hh,if_neg h];have T:Step (fun k=>k=1) w2 o1 (w2.setCell ⟨vb,8,none⟩ (.int .i64 (k:Nat))) o1:=(Step.refl _ _ _).setCell _ _ M2.blk.2;exact⟨rfl,o1,pb,⟨⟨heap_setCell_same _ _ 8 _ _ _ M2.blk.1,M2.blk.2⟩,M2.rs.step T (by decide),M2.rw.step T (by decide),fun i t ht=>by
      obtain⟨a,b⟩:=M2.sb i t ht;exact⟨(T.block _ a.lt (by rw[b];decide)).trans a,b⟩⟩,SW.trans (T.mono (fun k h=>Or.inl h))⟩
   have hkI:(k:Int)<=3:=by omega
   clear S M1 S1 hM B1 hS1 hol ho1 hh V;have c32:w1.cell? ⟨nb,32,none⟩=some (.int .i64 1):=c32;have c33:w1.cell? ⟨nb,33,none⟩=some (.int .i64 0):=c33;generalize haltF ([k],0) v=R at *;have HX:=HZ;clear HZ;generalize hkd0:v.kd=kd at *;by_cases hc:kd≠0/\kd≠k
   ·have HX:Hid (∀ w2,Kb nb w1 w2->w2.cell? ⟨vb,8,none⟩=some (.int .i64 (kd:Nat))/\w2.frozen? ⟨vb,8,none⟩=false/\PostV w o vb z p c R (.returned (.int .i64 202)) w2):=fun w2 K=>⟨(HX.out w2 K).1,(HX.out w2 K).2.1,(HX.out w2 K).2.2.1 hc⟩;have t1:¬(kd:Int)=0:=by omega
    have t2:¬(kd:Int)=(k:Int):=by omega
    have t3:(((kd:Int) != 0)&&((kd:Int) != (k:Int)))=true:=by simp[t1];omega
    clear hc;go_enter Tryd.func39,Tryd.ntmps39;go_upto_region 1 with fail;rw[<-hw1,<-HNB.out];clear hw1;go_wp2_with (first|(go_at_call 55;refine HP.mono ?_;intro e w2 h;obtain⟨rfl,K⟩:=HQ.out e w2 h;obtain⟨b8,f8,HY⟩:=HX.out w2 K;have HYY:=Lib.hid HY;clear HP HQ HX h c32 HY K));go_ret;exact HYY.out
   ·have HX:Hid (∀ w2,Kb nb w1 w2->w2.cell? ⟨vb,8,none⟩=some (.int .i64 (kd:Nat))/\w2.frozen? ⟨vb,8,none⟩=false/\PostV w o vb z p c R (.returned (.int .i64 0)) (w2.setCell ⟨vb,8,none⟩ (.int .i64 (k:Nat)))):=fun w2 K=>⟨(HX.out w2 K).1,(HX.out w2 K).2.1,(HX.out w2 K).2.2.2 hc⟩;by_cases e0:kd=0
    ·subst e0;go_enter Tryd.func39,Tryd.ntmps39;go_upto_region 1 with fail;rw[<-hw1,<-HNB.out];clear hw1;go_wp2_with (first|(go_at_call 55;refine HP.mono ?_;intro e w2 h;obtain⟨rfl,K⟩:=HQ.out e w2 h;obtain⟨b8,f8,HY⟩:=HX.out w2 K;have HYY:=Lib.hid HY;clear HP HQ HX h c32 HY K));go_ret;exact HYY.out
    ·have t1:¬(kd:Int)=0:=by omega
     obtain rfl:kd=k:=by omega
     go_enter Tryd.func39,Tryd.ntmps39;go_upto_region 1 with fail;rw[<-hw1,<-HNB.out];clear hw1;go_wp2_with (first|(go_at_call 55;refine HP.mono ?_;intro e w2 h;obtain⟨rfl,K⟩:=HQ.out e w2 h;obtain⟨b8,f8,HY⟩:=HX.out w2 K;have HYY:=Lib.hid HY;clear HP HQ HX h c32 HY K));go_ret;exact HYY.out
 ·have hh:haltF s v=(201,v):=by unfold haltF;rw[if_neg h1]
  have HY:Hid (PostV w o vb z p c (haltF s v) (.returned (.int .i64 201)) w1):=by rw[hh];exact⟨rfl,o1,pb,M1,S1⟩
  clear HP S M1 S1 hM B1 hS1 hol ho1 hh V;generalize haltF s v=R at *;generalize s.1.length=hl at *;generalize s.2=sr at *;by_cases e1:hl=1
  ·have e1I:(hl:Int)=1:=by omega
   have e2I:((sr:Int) != 0)=true:=by simp;omega
   subst e1;go_enter Tryd.func39,Tryd.ntmps39;go_upto_region 1 with fail;rw[<-hw1,<-HNB.out];clear hw1;go_wp2;go_ret;exact HY.out
  ·have e1I:((hl:Int) != 1)=true:=by simp;omega
   go_enter Tryd.func39,Tryd.ntmps39;go_upto_region 1 with fail;rw[<-hw1,<-HNB.out];clear hw1;go_wp2;go_ret;exact HY.out
def PostN (w:World)(o:Nat->Nat)(vb:Nat)(z:Vp)(p:Pl)(c:Cd)(v:Vw)(pb:Nat->Nat)(e:Ending)(w':World):Prop :=
 ∃o',Step I13 w o w' o'/\match nxtF v with
 | none=>e=.returned (.tuple #[.int .i64 0,.bool false])/\VwM w' o' vb z p c v pb
 | some k=>e=.returned (.tuple #[.int .i64 (k:Nat),.bool true])/\VwM w' o' vb z p c (markF k v) pb
theorem waits_lt {v:Vw}{i:Nat}(h:waits v i=true):i<v.tb.length:=by
 unfold waits at h;by_cases hi:i<v.tb.length
 ·exact hi
 ·rw[List.getD_eq_getElem?_getD,List.getElem?_eq_none (by omega)] at h;simp at h
theorem next_c (w:World)(o:Nat->Nat)(vb:Nat)(z:Vp)(p:Pl)(c:Cd)(v:Vw)(pb:Nat->Nat)(n:Nat)(V:VwOk n v)(D:VwD v)(hn:n<=32768)(hn0:0<n)(hT:Tzg w)(hTo:o 0=0)(hM:VwM w o vb z p c v pb) :
  Calls Tryd.prog 21 #[.pointer (some ⟨vb,0,none⟩)] w (PostN w o vb z p c v pb):=by
 obtain⟨⟨-,-,-,-,-,a5,-,-,-⟩,-⟩:=cells9 hM.blk.1;have hN:=V.tl;obtain⟨gw',cw',hgw,hwl,-,-,hgw1,hwcl,hwf⟩:=hM.rw.pos (by unfold mG;omega);simp only[Value.slice.injEq,Option.some.injEq,Addr.mk.injEq,and_true,true_and] at hgw;obtain⟨rfl,rfl⟩:=hgw;have hmm:mG v.tb.length<=512:=by unfold mG;omega
 have hml:v.tb.length<=64*mG v.tb.length:=by unfold mG;omega
 have hcell:∀ j,j<mG v.tb.length->w.cell? ⟨z.gw,j,none⟩=some (.int .u64 (wtN v j:Nat)):=fun j hj=>(hwcl j (by omega)).trans (wtV_at hj);have lgw:o z.gw=3:=hM.rw.2 _ rfl
 -- what a found word gives
 have HF:Hid (∀ j,j<mG v.tb.length->wtN v j≠0->(∀ i,i<j->wtN v i=0)->PostN w o vb z p c v pb (.returned (.tuple #[.int .i64 ((64*j+Lib.ctz 64 (wtN v j):Nat):Nat),.bool true])) (w.setCell ⟨z.gw,j,none⟩ (.int .u64 ((wtN v j &&& (wtN v j-1):Nat):Nat)))):=fun j hj h0 hlow=>by
  obtain⟨b1,b2,b3⟩:=ctz_bitg _ h0 (wtN_lt v j);obtain⟨t,ht⟩:∃t,t=Lib.ctz 64 (wtN v j):=⟨_,rfl⟩
  rw[<-ht] at b1 b2 b3 ⊢;rw[wtN_bit,decide_eq_true b3,Bool.true_and] at b1;have hkl:=waits_lt b1;have hnx:nxtF v=some (64*j+t):=nxt_at hkl b1 fun i hi=>by
   by_cases h:i / 64=j
   ·have:=b2 (i % 64) (by omega)
    rw[wtN_bit,decide_eq_true (by omega),Bool.true_and,show 64*j+i % 64=i by omega] at this;exact this
   ·have:=wtN_none (hlow (i / 64) (by omega)) (i % 64) (by omega)
    rw[show 64*(i / 64)+i % 64=i by omega] at this;exact this
  have hmk:=wtN_mark h0 ht (by rw[V.dl,<-hN];exact hkl);have T:Step (fun k=>k=3) w o (w.setCell ⟨z.gw,j,none⟩ (.int .u64 ((wtN v j &&& (wtN v j-1):Nat):Nat))) o:=(Step.refl _ _ _).setCell _ _ lgw;have hwv:(wtV v (mG v.tb.length)).set j (.int .u64 ((wtN v j &&& (wtN v j-1):Nat):Nat))=wtV (markF (64*j+t) v) (mG v.tb.length):=by
   apply List.ext_getElem?;intro i;rw[List.getElem?_set];by_cases hi:i<mG v.tb.length
   ·rw[wtV_at hi,wtV_at hi,hmk];by_cases e:j=i
    ·subst e;rw[if_pos rfl,if_pos (by simp[wtV];exact hi),if_pos rfl]
    ·rw[if_neg e,if_neg (fun x=>e x.symm)]
   ·rw[List.getElem?_eq_none (l:=wtV (markF _ v) _) (by simp[wtV];omega),List.getElem?_eq_none (l:=wtV v _) (by simp[wtV];omega)];split
    ·split
     ·rename_i h1 h2;simp[wtV] at h2;omega
     ·rfl
    ·rfl
  have r1:=hM.rw.store j (.int .u64 ((wtN v j &&& (wtN v j-1):Nat):Nat));rw[hwv] at r1;refine⟨o,T.mono (fun k h=>Or.inr (Or.inr h)),?_⟩;rw[hnx];exact⟨rfl,hM.blk.step T (by decide),hM.rs.step T (by decide),r1,fun i s hs=>by
   obtain⟨x,y⟩:=hM.sb i s hs;exact⟨(T.block _ x.lt (by rw[y];decide)).trans x,y⟩⟩
 have HG0:Hid ((∀ i,i<mG v.tb.length->wtN v i=0)->PostN w o vb z p c v pb (.returned (.tuple #[.int .i64 0,.bool false])) w):=fun h=>by
  have hnx:nxtF v=none:=nxt_no fun i hi=>by
   have:=wtN_none (h (i / 64) (by omega)) (i % 64) (by omega)
   rw[show 64*(i / 64)+i % 64=i by omega] at this;exact this
  refine⟨o,Step.refl _ _ _,?_⟩;rw[hnx];exact⟨rfl,hM⟩
 have hwlt:=fun j=>wtN_lt v j;have hgz:z.gw≠0:=fun e=>by rw[e] at lgw;omega
 generalize mG v.tb.length=mm at *;clear hM V D hwl hwcl lgw hN hml hgw1;go_enter Tryd.func21,Tryd.ntmps21;go_wp2_with fail;go_loopw [11] (fun x wr=>∃j:Nat,x=.int .i64 (j:Nat)/\j<=mm/\Hid (∀ i,i<j->wtN v i=0)/\wr=w) (fun x _=>mm-(intOf x).toNat)
 case atStart=>exact⟨0,by go_num,by omega,fun i hi=>by omega,rfl⟩
 case round =>
  obtain⟨j,rfl,hj,HL,rfl⟩:=hrel;by_cases hlt:j<mm
  ·have hjI:(j:Int)<(mm:Int):=by omega
   have cj:=hcell j hlt;have fj:=hwf j;have hwj:=hwlt j;by_cases h0:wtN v j=0
   ·have hst:Hid (∀ i,i<j+1->wtN v i=0):=fun i hi=>by
     by_cases e:i=j
     ·subst e;exact h0
     ·exact HL.out i (by omega)
    rw[h0] at cj;clear h0 hwj hcell HF HG0 HL hwf hwlt;go_wp2;go_roundw
    case rel=>(try ((repeat apply Exists.intro);refine⟨?_,rfl⟩));exact⟨j+1,by go_num,by omega,hst,by trivial⟩
    case measure=>simp[intOf];omega
   ·have HY:=Lib.hid (HF.out j hlt h0 HL.out);have htz:=fun wx h=>tz_cg (wtN v j) wx hwj h0 h;have hb3:=(ctz_bitg _ h0 hwj).2.2;generalize Lib.ctz 64 (wtN v j)=t at *;generalize wtN v j=wn at *;obtain⟨nw,hnw⟩:∃nw,nw=wn &&& (wn-1):=⟨_,rfl⟩
    rw[<-hnw] at HY;have e1:bits .and .u64 ((wn:Nat):Int) (IntKind.u64.wrap ((wn:Nat)-1:Int))=(nw:Int):=by
     have h:=bits_and_u64_nat wn (wn-1) hwj (by unfold topG at hwj;omega);have h2:IntKind.u64.wrap ((wn:Nat)-1:Int)=((wn-1:Nat):Int):=by rw[IntKind.wrap_u64];unfold topG at hwj;omega
     rw[hnw,h2,<-h]
    have E1:=Lib.hid e1;have hne:¬(wn:Int)=0:=by omega
    have T2:Hid (Tzg (wr.setCell ⟨z.gw,j,none⟩ (.int .u64 (nw:Nat)))):=⟨fun i hi=>(World.cell?_of_block (a:=⟨0,i,none⟩) (heap_setCell_other _ _ _ _ (fun e=>hgz e.symm))).trans (hT.1 i hi),by simpa using hT.2⟩
    clear hcell HF HG0 HL hwf hwlt e1 hnw h0;have hsum:Hid ((64:Int)*(j:Int)+(t:Int)=((64*j+t:Nat):Int)):=by show _=_;omega
    go_upto_region 6 with fail;rw[E1.out];clear E1 cj fj a5 hT hgz;have T3:=T2.out;clear T2;generalize wr.setCell ⟨z.gw,j,none⟩ (.int .u64 (nw:Nat))=w2 at *;go_wp2_with (first|(go_at_call 37;refine(htz _ T3).mono ?_;rintro e w5 ⟨rfl,rfl⟩));go_ret2;have HX:=HY.out;rw[<-hsum.out] at HX;exact HX
  ·have hjI:¬(j:Int)<(mm:Int):=by omega
   obtain rfl:j=mm:=by omega
   have HY:=Lib.hid (HG0.out HL.out);clear HF HG0 HL hcell hwf hwlt;go_wp2;go_ret2;exact HY.out
end Go.Proofs.YtpdfdhkdfkhfkaaDoor
