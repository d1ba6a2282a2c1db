import Derived.Test.YtpdfdhkdfkhfkaaDoorGdU
set_option maxRecDepth 100000
set_option maxHeartbeats 8000000
namespace Go.Proofs.YtpdfdhkdfkhfkaaDoor
open Go.ChangeShapes Go.WideShapes Go.ChangeAt Go.RowKit
set_option linter.unusedVariables false
set_option linter.unusedSimpArgs false
def cd1 (l:List Rw)(cs:List Int):Cd:=⟨(l.map wdN).take 1,cs,[fewS],[1,2,3]⟩
theorem cd1_ok {l:List Rw}{cs:List Int}(okS:∀ u ∈ cs,-9223372036854775808<=u/\u<=9223372036854775807):(cd1 l cs).Ok :=
 ⟨fun u hu=>(cdS_ok (l:=l) okS).ws u (List.mem_of_mem_take hu),(cdS_ok (l:=l) okS).cs,(cdS_ok (l:=l) okS).ks,(cdS_ok (l:=l) okS).ns⟩
theorem lsv_take {w:World}{ao:Option Addr}{xs:List Value}(n:Nat)(h:Lsv w ao xs):Lsv w ao (xs.take n):=by
 rcases h with h|⟨b,off,e,hlt,hc⟩
 ·exact .inl (by rw[h];simp)
 ·exact .inr ⟨b,off,e,hlt,fun j x hj=>hc j x (by rw[List.getElem?_take] at hj;split at hj;exact hj;cases hj)⟩
theorem len_of_taken {c:Cd}(h:(vrfA c).2.1=0):0<c.ws.length/\c.ws.length<=32768:=by
 by_cases hr:rgtB c=true
 ·simp only[rgtB,wdsB,Bool.and_eq_true,decide_eq_true_eq] at hr;exact hr.2.1
 ·unfold vrfA at h;rw[if_neg hr] at h;exact absurd h (by simp)
theorem guardCut_walk (aR:Option Addr)(cR:Nat)(l:List Rw)(aS:Option Addr)(cS:Nat)(cs:List Int)(aM:Option Addr)(cM:Nat)(ms:List Rw)(w:World)(hF:Fx w)(hT:Tzg w)
  (hR:RawW w aR l) (okR:∀ r ∈ l,r.Ok) (lR:l.length*24<=140737488351232) (hS:Lsv w aS (isV cs)) (okS:∀ u ∈ cs,-9223372036854775808<=u/\u<=9223372036854775807) (lS:cs.length*8<=140737488351232)
  (hM:RawW w aM ms) (okM:∀ r ∈ ms,r.Ok) (lM:ms.length*24<=140737488351232) :
  Calls Tryd.prog 6 #[.slice aR l.length cR,.slice aS cs.length cS,.slice aM ms.length cM] w fun e w'=>e=.returned (.bool true)/\Below w.heap.size w w':=by
 obtain⟨g,hg⟩:∃g,g=w.heap.size:=⟨_,rfl⟩
 have HG:=Lib.hid hg;have HA:=awake_c w hF hT;go_enter Tryd.func6,Tryd.ntmps6;go_wp2_with fail;refine HA.mono ?_;rintro e w0 ⟨rfl,B0⟩;have F0:=hF.below B0;have T0:=hT.below B0;have R0:=hR.below B0;have S0:=hS.below B0;have M0:=hM.below B0;have BB0:Below g w w0:=by rw[hg];exact B0
 have z0:=B0.size;rw[<-hg] at z0;obtain⟨g1,hg1⟩:∃g1,g1=w0.heap.size:=⟨_,rfl⟩
 obtain⟨w1,hw1⟩:∃w1,w1=(w0.alloc (.cells #[.string fewS] 9)).alloc (.cells k3g 3):=⟨_,rfl⟩
 have B1:Below w0.heap.size w0 w1:=by rw[hw1];exact((Below.refl _ w0).alloc (Nat.le_refl _) _).alloc (by simp) _
 have s1:w1.heap.size=g1+2:=by rw[hw1,hg1];simp
 have N1:Lsv w1 (some ⟨g1,0,none⟩) (nsV [fewS]):=by
  refine few_lsv (t:=9) (p:=(0,0)) ?_ (by omega);rw[hw1,hg1];exact(Below.heap_alloc _ _ _ (by simp)).trans (heap_alloc_new _ _)
 have K1:Lsv w1 (some ⟨g1+1,0,none⟩) (isV [1,2,3]):=by
  refine k3g_lsv (t:=3) (p:=(0,0)) ?_ (by omega)
  have:=heap_alloc_new (w0.alloc (.cells #[.string fewS] 9)) (.cells k3g 3)
  rw[hw1,hg1];simpa using this
 have F1:=F0.below B1;have T1:=T0.below B1;have BB1:=bdt BB0 B1 z0;have z1:=Nat.le_trans z0 B1.size;have RL1:=R0.below B1;have S1:=S0.below B1;have M1:=M0.below B1;have HM:=mk2_c w1 aR cR l (.slice aS cs.length cS) (.slice (some ⟨g1,0,none⟩) 1 1) (.slice (some ⟨g1+1,0,none⟩) 3 3) (R0.below B1) okR (by omega) ⟨_,_,_,rfl⟩ ⟨_,_,_,rfl⟩ ⟨_,_,_,rfl⟩;have HG1:=Lib.hid hg1;clear HA hR hF hT hS hM B0 hg F0 T0 R0 S0 M0 BB0 B1 hg1;go_wp2_with fail;rw[<-hw1,<-HG1.out];clear hw1;refine HM.mono ?_;rintro e w2 ⟨aw,cw,rfl,LW,B2,hcap⟩;obtain⟨c,hc⟩:∃c:Cd,c=cdS l cs:=⟨_,rfl⟩
 obtain⟨p,hp⟩:∃p:Pl,p=⟨aw,cw,aS,cS,some ⟨g1,0,none⟩,1,some ⟨g1+1,0,none⟩,3⟩:=⟨_,rfl⟩
 have C2:CdW w2 p c:=by
  rw[hc,hp];exact⟨cdS_ok okS,LW,S1.below B2,N1.below B2,K1.below B2,by simp[cdS];omega,by simp[cdS];omega,by simp[cdS],by simp[cdS]⟩
 have F2:=F1.below B2;have T2:=T1.below B2;have M2:=M1.below B2;have RL2:=RL1.below B2;have BB2:=bdt BB1 B2 z1;have z2:=Nat.le_trans z1 B2.size;have hv:(.agg #[.slice aw l.length cw,.slice aS cs.length cS,.slice (some ⟨g1,0,none⟩) 1 1,.slice (some ⟨g1+1,0,none⟩) 3 3]:Value)=cdV p c:=by rw[hp,hc];simp[cdV,cdA,cdS]
 rw[hv];have HCW:Hid (l.length<=p.cw):=by show _<=_;rw[hp];exact hcap
 have HC:=Lib.hid hc;have HP:=Lib.hid hp;clear hcap RL1 HM LW B2 F1 T1 M1 S1 N1 K1 hv BB1 hc hp;obtain⟨w4,hw4⟩:∃w4,w4=w2.alloc (.cells (cdA p c) 26):=⟨_,rfl⟩
 obtain⟨g4,hg4⟩:∃g4,g4=w2.heap.size:=⟨_,rfl⟩
 have B4:Below w2.heap.size w2 w4:=by rw[hw4];exact b1 _ _
 have K4:bx4 p c w4 g4:=by rw[hw4,hg4];exact bx4_new p c w2
 have L4:g4<w4.heap.size:=by rw[hw4,hg4];simp
 have C4:=C2.below B4;have F4:=F2.below B4;have T4:=T2.below B4;have M4:=M2.below B4;have RL4:=RL2.below B4;have BB4:=bdt BB2 B4 z2;have z4:=Nat.le_trans z2 B4.size;have HG4:=Lib.hid hg4;obtain⟨⟨⟨st,rd,kd⟩,er,at_⟩,hres⟩:∃r,vrfA c=r:=⟨_,rfl⟩
 have HV:=verify_c w4 p c F4 T4 C4;rw[hres,resV_eq] at HV;have HRES:=Lib.hid hres;clear C2 F2 T2 B4 hg4 BB2 hres M2 RL2;go_upto_region 3 with fail;rw[<-hw4,<-HG4.out];clear hw4;obtain⟨k0,k1,k2,k3⟩:=K4;go_wp2_with fail;refine HV.mono ?_;rintro e w5 ⟨rfl,B5⟩;have K5:=bx4_below ⟨k0,k1,k2,k3⟩ L4 B5;have C5:=C4.below B5;have F5:=F4.below B5;have T5:=T4.below B5;have M5:=M4.below B5;have RL5:=RL4.below B5;have BB5:=bdt BB4 B5 z4;have z5:=Nat.le_trans z4 B5.size;have L5:=Nat.lt_of_lt_of_le L4 B5.size;clear HV B5 F4 T4 C4 M4 RL4 k0 k1 k2 k3 BB4 L4;obtain⟨w6,hw6⟩:∃w6,w6=w5.alloc (.cells (lmA (st,rd,kd)) 29):=⟨_,rfl⟩
 obtain⟨g6,hg6⟩:∃g6,g6=w5.heap.size:=⟨_,rfl⟩
 have B6:Below w5.heap.size w5 w6:=by rw[hw6];exact b1 _ _
 have J6:bx3 (st,rd,kd) w6 g6:=by rw[hw6,hg6];exact bx3_new (st,rd,kd) w5
 have I6:g6<w6.heap.size:=by rw[hw6,hg6];simp
 have K6:=bx4_below K5 L5 B6;have L6:=Nat.lt_of_lt_of_le L5 B6.size;have C6:=C5.below B6;have F6:=F5.below B6;have T6:=T5.below B6;have M6:=M5.below B6;have RL6:=RL5.below B6;have BB6:=bdt BB5 B6 z5;have z6:=Nat.le_trans z5 B6.size;have HG6:=Lib.hid hg6;clear F5 T5 C5 M5 RL5 K5 B6 hg6 BB5 L5;go_upto_region 4 with fail;rw[<-hw6,<-HG6.out];clear hw6;have hend:Below w.heap.size w w6:=by rw[<-HG.out];exact BB6
 have HEND:=Lib.hid hend;clear hend;by_cases her:er=0
 ·subst her;have hlw:=len_of_taken (c:=c) (by rw[HRES.out]);rw[HC.out] at hlw;have hlw1:0<l.length/\l.length<=32768:=by simpa [cdS] using hlw
  clear hlw;obtain⟨i1,hi1,zr0,zr1,zr2⟩:=info_parts infoR;obtain⟨o,ho⟩:∃o:Nat->Nat,o=fun _=>0:=⟨_,rfl⟩
  have hol:∀ k,k<w6.heap.size->o k=0:=fun k hk=>by rw[ho]
  have n1:=fun h=>raw_cells RL6 h;clear HEND ho;obtain⟨k0,k1,k2,k3⟩:=K6;obtain⟨j0,j1,j2⟩:=J6;go_wp2_with (first|(at_builtin;refine wpList_append_any48 rfl _ _ 36 rfl 44 i1 (.agg #[.int .i64 0,.int .i64 0,.int .i64 0]) 3 24 Tryd.underlying36 hi1 zr0 zr1 zr2 rfl (by decide) o 4 (.slice none 0 0) 0 [] rfl (Row.nil _ _ _ _ _) aR l.length _ (rawV l) rfl (rawV_len l) n1 (rawV_one l) ?a0 ?b0 ?_)|go_in)
  case a0=>unfold maxLen;omega
  case b0=>omega
  intro ao0 cp0 wb ob RB SB
  (try rw[List.nil_append,Nat.zero_add] at RB)
  have Bb:=SB.below (fun k hk=>by rw[hol k hk];decide);have n2:=fun h=>raw_cells (M6.below Bb) h;go_wp2_with (first|(at_builtin;refine wpList_append_any48 rfl _ _ 36 rfl 44 i1 (.agg #[.int .i64 0,.int .i64 0,.int .i64 0]) 3 24 Tryd.underlying36 hi1 zr0 zr1 zr2 rfl (by decide) ob 4 _ l.length (rawV l) (by first|rfl|(simp;done)) RB aM ms.length _ (rawV ms) rfl (rawV_len ms) n2 (rawV_one ms) ?c0 ?d0 ?_)|go_in)
  case c0=>unfold maxLen;omega
  case d0=>omega
  intro ao cp wa oa RA SA;rw[rawV_app] at RA;have Ba:Below w6.heap.size w6 wa:=((SB.mono (fun k hk=>hk)).trans SA).below (fun k hk=>by rw[hol k hk];decide);have RRA:=row_raw RA;have zA:=Nat.le_trans z6 Ba.size;have BBA:=bdt BB6 Ba z6;have CA:=C6.below Ba;have FA:=F6.below Ba;have TA:=T6.below Ba;have KA:=bx4_below ⟨k0,k1,k2,k3⟩ L6 Ba;have JA:=bx3_below (l:=(st,rd,kd)) ⟨j0,j1,j2⟩ I6 Ba;have LA:=Nat.lt_of_lt_of_le L6 Ba.size;have IA:=Nat.lt_of_lt_of_le I6 Ba.size;clear RA SA RB SB n1 n2 Ba Bb k0 k1 k2 k3 j0 j1 j2 C6 F6 T6 L6 I6 M6 RL6 BB6 hol;obtain⟨gB,hgB⟩:∃gB,gB=wa.heap.size:=⟨_,rfl⟩
  obtain⟨wB,hwB⟩:∃wB,wB=(wa.alloc (.cells #[.string fewS] 9)).alloc (.cells k3g 3):=⟨_,rfl⟩
  have BB:Below wa.heap.size wa wB:=by rw[hwB];exact((Below.refl _ wa).alloc (Nat.le_refl _) _).alloc (by simp) _
  have sB:wB.heap.size=gB+2:=by rw[hwB,hgB];simp
  have NB:Lsv wB (some ⟨gB,0,none⟩) (nsV [fewS]):=by
   refine few_lsv (t:=9) (p:=(0,0)) ?_ (by omega);rw[hwB,hgB];exact(Below.heap_alloc _ _ _ (by simp)).trans (heap_alloc_new _ _)
  have QB:Lsv wB (some ⟨gB+1,0,none⟩) (isV [1,2,3]):=by
   refine k3g_lsv (t:=3) (p:=(0,0)) ?_ (by omega)
   have:=heap_alloc_new (wa.alloc (.cells #[.string fewS] 9)) (.cells k3g 3)
   rw[hwB,hgB];simpa using this
  have hlapp:(l++ms).length=l.length+ms.length:=by simp
  have HM:=mk_c wB ao cp (l++ms) (.slice aS cs.length cS) (.slice (some ⟨gB,0,none⟩) 1 1) (.slice (some ⟨gB+1,0,none⟩) 3 3) (RRA.below BB) (fun r hr=>(List.mem_append.1 hr).elim (okR r) (okM r)) (by rw[hlapp];omega) ⟨_,_,_,rfl⟩ ⟨_,_,_,rfl⟩ ⟨_,_,_,rfl⟩;rw[hlapp] at HM;have CB:=CA.below BB;have FB:=FA.below BB;have TB:=TA.below BB;have KB:=bx4_below KA LA BB;have JB:=bx3_below JA IA BB;have LB:=Nat.lt_of_lt_of_le LA BB.size;have IB:=Nat.lt_of_lt_of_le IA BB.size;have BBB:=bdt BBA BB zA;have zB:=Nat.le_trans zA BB.size;have HGB:=Lib.hid hgB;clear CA FA TA KA JA LA IA BBA BB hgB sB;go_wp2_with fail;rw[<-hwB,<-HGB.out];clear hwB;refine HM.mono ?_;rintro e wC ⟨aw2,cw2,rfl,LW,BC⟩;have CC:=CB.below BC;have FC:=FB.below BC;have TC:=TB.below BC;have KC:=bx4_below KB LB BC;have JC:=bx3_below JB IB BC;have LC:=Nat.lt_of_lt_of_le LB BC.size;have IC:=Nat.lt_of_lt_of_le IB BC.size;have BBC:=bdt BBB BC zB;have zC:=Nat.le_trans zB BC.size;obtain⟨d,hd⟩:∃d:Cd,d=cdS (l++ms) cs:=⟨_,rfl⟩
  obtain⟨q,hq⟩:∃q:Pl,q=⟨aw2,cw2,aS,cS,some ⟨gB,0,none⟩,1,some ⟨gB+1,0,none⟩,3⟩:=⟨_,rfl⟩
  have SC:Lsv wC aS (isV cs):=by have:=CC.cs;rw[HC.out,HP.out] at this;exact this
  have DC:CdW wC q d:=by
   rw[hd,hq];exact⟨cdS_ok okS,LW,SC,NB.below BC,QB.below BC,by simp[cdS];omega,by simp[cdS];omega,by simp[cdS],by simp[cdS]⟩
  have hv:(.agg #[.slice aw2 (l++ms).length cw2,.slice aS cs.length cS,.slice (some ⟨gB,0,none⟩) 1 1,.slice (some ⟨gB+1,0,none⟩) 3 3]:Value)=cdV q d:=by rw[hq,hd];simp[cdV,cdA,cdS]
  rw[hv];have hrel:((vrfA d).2.1=180/\(vrfA d).2.2=0/\(vrfA d).1=(0,0,0))\/vrfA d=vrfA c:=by
   have h0:(vrfA c).2.1=0:=by rw[HRES.out]
   rw[hd];rw[HC.out] at h0 ⊢;exact vrf_words (l:=ms.map wdN) (cdS_ok okS) (by simp[cdS]) rfl h0
  rw[HRES.out] at hrel;clear hv hd hq HM LW BC NB QB CB FB TB KB JB LB IB BBB SC RRA;obtain⟨gD,hgD⟩:∃gD,gD=wC.heap.size:=⟨_,rfl⟩
  obtain⟨wD,hwD⟩:∃wD,wD=wC.alloc (.cells (cdA q d) 26):=⟨_,rfl⟩
  have BD:Below wC.heap.size wC wD:=by rw[hwD];exact b1 _ _
  obtain⟨x0,x1,x2,x3⟩:bx4 q d wD gD:=by rw[hwD,hgD];exact bx4_new q d wC
  have CD:=CC.below BD;have DD:=DC.below BD;have FD:=FC.below BD;have TD:=TC.below BD;have KD:=bx4_below KC LC BD;have JD:=bx3_below JC IC BD;have LD:=Nat.lt_of_lt_of_le LC BD.size;have ID:=Nat.lt_of_lt_of_le IC BD.size;have BBD:=bdt BBC BD zC;have zD:=Nat.le_trans zC BD.size;have HGD:=Lib.hid hgD;obtain⟨⟨⟨s2,r2,t2⟩,e2,a2⟩,hres2⟩:∃r,vrfA d=r:=⟨_,rfl⟩
  have HV:=verify_c wD q d FD TD DD;rw[hres2,resV_eq] at HV;rw[hres2] at hrel;have HREL:Hid (e2=180\/(e2=0/\s2=st/\r2=rd/\t2=kd)):=by
   rcases hrel with h|h
   ·exact .inl h.1
   ·simp only[Prod.mk.injEq] at h;exact .inr ⟨h.2.1,h.1.1,h.1.2.1,h.1.2.2⟩
  clear hrel hres2 DC CC FC TC KC JC LC IC BBC BD hgD DD;go_upto_region 9 with fail;rw[<-hwD,<-HGD.out];clear hwD;go_wp2_with fail;refine HV.mono ?_;rintro e wE ⟨rfl,BE⟩;have CE:=CD.below BE;have FE:=FD.below BE;have TE:=TD.below BE;have KE:=bx4_below KD LD BE;have JE:=bx3_below JD ID BE;have LE:=Nat.lt_of_lt_of_le LD BE.size;have IE:=Nat.lt_of_lt_of_le ID BE.size;have BBE:=bdt BBD BE zD;have zE:=Nat.le_trans zD BE.size;clear HV BE CD FD TD KD JD LD ID BBD x0 x1 x2 x3;obtain⟨gF,hgF⟩:∃gF,gF=wE.heap.size:=⟨_,rfl⟩
  obtain⟨wF,hwF⟩:∃wF,wF=wE.alloc (.cells (lmA (s2,r2,t2)) 29):=⟨_,rfl⟩
  have BF:Below wE.heap.size wE wF:=by rw[hwF];exact b1 _ _
  obtain⟨y0,y1,y2⟩:bx3 (s2,r2,t2) wF gF:=by rw[hwF,hgF];exact bx3_new (s2,r2,t2) wE
  have CF:=CE.below BF;have FF:=FE.below BF;have TF:=TE.below BF;have KF:=bx4_below KE LE BF;obtain⟨j0,j1,j2⟩:=bx3_below JE IE BF;have BBF:=bdt BBE BF zE;have zF:=Nat.le_trans zE BF.size;have HGF:=Lib.hid hgF;clear BF CE FE TE KE JE LE IE BBE hgF;go_upto_region 10 with fail;rw[<-hwF,<-HGF.out];clear hwF;have hwne:c.ws≠[]:=by
   rw[HC.out];intro h
   have:(l.map wdN).length=0:=by rw[show l.map wdN=[] from h];rfl
   simp at this;subst this;simp at hlw1
  obtain⟨pb,po,hpw⟩:∃b off,p.aw=some ⟨b,off,none⟩:=by
   rcases CF.ws with h|⟨b,off,e,_⟩
   ·exact absurd h (by simpa [wsV] using hwne)
   ·exact⟨b,off,e⟩
  have hcw1:(1:Int)<=(p.cw:Int):=by have:=HCW.out;omega
  have LF:g4<wF.heap.size:=by
   by_cases h:g4<wF.heap.size
   ·exact h
   ·have e:=KF.1;simp[World.cell?,Array.getElem?_eq_none (Nat.le_of_not_lt h)] at e
  obtain⟨m0,m1,m2,m3⟩:=bx4_below KF LF ((Below.refl _ wF).drew);rw[hpw] at m0;have nn0:=World.new_ne wF ⟨g4,0,none⟩ KF.1;have nn2:=World.new_ne wF ⟨g4,2,none⟩ KF.2.2.1;have nn3:=World.new_ne wF ⟨g4,3,none⟩ KF.2.2.2;have f0:=KF.1;have f2:=KF.2.2.1;have f3:=KF.2.2.2;rw[hpw] at f0;clear KF LF;obtain⟨d1,hd1⟩:∃d1:Cd,d1=cd1 l cs:=⟨_,rfl⟩
  obtain⟨q1,hq1⟩:∃q1:Pl,q1=⟨some ⟨pb,po,none⟩,p.cw,aS,cS,p.an,p.cn,p.ak,p.ck⟩:=⟨_,rfl⟩
  have hl1:d1.ws.length=1:=by rw[hd1];simp[cd1];omega
  have hcA:cdA q1 d1=#[.slice (some ⟨pb,po,none⟩) 1 p.cw,.slice aS cs.length cS,.slice p.an c.ns.length p.cn,.slice p.ak c.ks.length p.ck]:=by
   unfold cdA;rw[hl1,hq1,hd1,HC.out];rfl
  have D1:CdW wF q1 d1:=by
   have a1:=CF.ws;have a2:=CF.cs;have a3:=CF.ns;have a4:=CF.ks;rw[HC.out] at a1 a2 a3 a4;rw[hpw] at a1;have a2':Lsv wF aS (isV cs):=by rw[HP.out] at a2;exact a2
   rw[hd1,hq1];refine⟨cd1_ok okS,?_,a2',a3,a4,by simp[cd1];omega,by simp[cd1];omega,by simp[cd1],by simp[cd1]⟩
   have:=lsv_take 1 a1
   rw[show wsV ((cd1 l cs).ws)=(wsV ((cdS l cs).ws)).take 1 by simp[cd1,cdS,wsV,List.map_take]];exact this
  have hfst:=vrf_first hl1;obtain⟨gH,hgH⟩:∃gH,gH=wF.heap.size:=⟨_,rfl⟩
  obtain⟨wH,hwH⟩:∃wH,wH=(wF.alloc (.cells (cdA q1 d1) 26)).drew:=⟨_,rfl⟩
  have BH:Below wF.heap.size wF wH:=by rw[hwH];exact(b1 _ _).drew
  have KH:bx4 q1 d1 wH gH:=by
   rw[hwH,hgH];exact bx4_below (bx4_new q1 d1 wF) (by simp) ((Below.refl _ _).drew)
  have FH:=FF.below BH;have TH:=TF.below BH;have DH:=D1.below BH;have BBH:=bdt BBF BH zF;have zH:=Nat.le_trans zF BH.size;obtain⟨⟨⟨s3,r3,t3⟩,e3,a3⟩,hres3⟩:∃r,vrfA d1=r:=⟨_,rfl⟩
  rw[hres3] at hfst;obtain⟨he3,ha3⟩:=hfst;simp only at he3 ha3;subst ha3;have HV:=verify_c wH q1 d1 FH TH DH;rw[hres3,resV_eq] at HV;have HHV:=Lib.hid HV;have HKH:=Lib.hid KH;have HBBH:=Lib.hid BBH;have HZH:=Lib.hid zH;have HWH:=Lib.hid hwH;have HGH:=Lib.hid hgH;have HE3:=Lib.hid he3;clear hwH hgH BH KH FH TH DH BBH zH HV D1 he3 hres3;have HZF:=Lib.hid zF;have HLW:=Lib.hid hlw1;have HQ1:=Lib.hid hq1;have HD1:=Lib.hid hd1;have HCA:=Lib.hid hcA;have HL1:=Lib.hid hl1;have HWN:=Lib.hid hwne;have HPW:=Lib.hid hpw;clear zF hlw1 hq1 hd1 hcA hl1 hwne hpw CF FF TF BBF;have HREL2:=HREL.out;rcases HREL2 with rfl|⟨rfl,rfl,rfl,rfl⟩
  all_goals
   go_upto_region 12 with fail;clear y0 y1 y2 j0 j1 j2;go_region_held3 (fun wx=>wx.cell? ⟨g4,0,none⟩=some (.slice (some ⟨pb,po,none⟩) c.ws.length p.cw)/\wx.cell? ⟨g4,2,none⟩=some (.slice p.an c.ns.length p.cn)/\wx.cell? ⟨g4,3,none⟩=some (.slice p.ak c.ks.length p.ck)) (go_keep) (fail);rw[<-HCA.out,<-HWH.out,<-HGH.out];clear m0 m1 m2 m3 f0 f2 f3 nn0 nn2 nn3;have HV:=HHV.out;obtain⟨k0,k1,k2,k3⟩:=HKH.out;go_upto_region 13 with fail;go_wp2_with fail;refine HV.mono ?_;rintro e wI ⟨rfl,BI⟩;have BBI:=bdt HBBH.out BI HZH.out;have zI:=Nat.le_trans HZH.out BI.size;clear HV BI k0 k1 k2 k3;obtain⟨gJ,hgJ⟩:∃gJ,gJ=wI.heap.size:=⟨_,rfl⟩
   obtain⟨wJ,hwJ⟩:∃wJ,wJ=wI.alloc (.cells (lmA (s3,r3,t3)) 29):=⟨_,rfl⟩
   have hend:Below w.heap.size w wJ:=by rw[<-HG.out,hwJ];exact bdt BBI (b1 _ _) zI
   have HEND:=Lib.hid hend;have HGJ:=Lib.hid hgJ;have h3:=HE3.out;have h3I:((((e3:Nat):Int)) != 0)=true:=by simpa using h3
   have h3J:¬((e3:Nat):Int)=0:=by omega
   clear hend BBI zI hgJ;go_upto_region 14 with fail;rw[<-hwJ,<-HGJ.out];clear hwJ;go_wp2;go_ret;exact⟨rfl,HEND.out⟩
 ·have hei:¬((er:Nat):Int)=0:=by omega
  have hei2:((((er:Nat):Int)) != 0)=true:=by simpa using hei
  clear HRES K6 C6 J6;go_wp2;go_ret;exact⟨rfl,HEND.out⟩
end Go.Proofs.YtpdfdhkdfkhfkaaDoor
