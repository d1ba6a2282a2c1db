import Derived.Test.YtbjdkekhnajafaaGreatDoorRdqQ
set_option maxRecDepth 100000
set_option maxHeartbeats 8000000
namespace Go.Proofs.YtbjdkekhnajafaaGreatDoor
open Go.ChangeShapes Go.WideShapes Go.ChangeAt Go.RowKit
set_option linter.unusedVariables false
set_option linter.unusedSimpArgs false
theorem cwL_ok:∀ s,s ∈ cwL->s≠[]/\nameB s=false:=by decide
theorem qwL_ok:∀ s,s ∈ qwL->s≠[]/\nameB s=false:=by decide
theorem call_none {x:Tk}{r:List Tk}(h:callAt x.t=none):amgI cwL (.inr (x::r))=-1:=amg_out fun s hs e=>by
 obtain⟨z,hz,rfl⟩:=List.mem_map.1 hs
 have:=List.find?_eq_none.1 h z hz
 simp[e] at this
theorem quant_none {x:Tk}{r:List Tk}(h:quantAt x.t=none):amgI qwL (.inr (x::r))=-1:=amg_out fun s hs e=>by
 obtain⟨z,hz,rfl⟩:=List.mem_map.1 hs
 have:=List.find?_eq_none.1 h z hz
 simp[e] at this
theorem nodup_at {L:List (List UInt8)}(hd:L.Nodup){k:Nat}{s:List UInt8}(hk:L[k]?=some s):∀ j t,j<k->L[j]?=some t->t≠s:=fun j t hj ht e=>by
 subst e;obtain⟨hk1,hk2⟩:=List.getElem?_eq_some_iff.1 hk;obtain⟨hj1,hj2⟩:=List.getElem?_eq_some_iff.1 ht;exact(List.pairwise_iff_getElem.1 hd j k hj1 hk1 hj) (hj2.trans hk2.symm)
theorem call_some {x:Tk}{r:List Tk}{z:List UInt8 × Nat × Nat}(h:callAt x.t=some z):∃i:Nat,amgI cwL (.inr (x::r))=(i:Nat)/\i<10/\z.2.1=i+1/\z.2.2=(if i<3 then 2 else 1)/\x.t≠[]:=by
 have hz:z ∈ callsL:=List.mem_of_find?_eq_some h;have hp:=List.find?_some h;simp only[beq_iff_eq] at hp;obtain⟨i,hi,he⟩:=List.getElem_of_mem hz;have hL:callsL.length=10:=rfl;have h1:cwL[i]?=some z.1:=by
  rw[cwL,List.getElem?_map,List.getElem?_eq_getElem hi,he];rfl
 have key:∀ i,(h:i<callsL.length)->callsL[i].2.1=i+1/\callsL[i].2.2=(if i<3 then 2 else 1)/\callsL[i].1≠[]:=by decide
 have:=key i hi
 rw[he] at this;exact⟨i,amg_at h1 hp.symm (nodup_at (by decide) h1),by omega,this.1,this.2.1,by rw[<-hp];exact this.2.2⟩
theorem quant_some {x:Tk}{r:List Tk}{z:List UInt8 × Nat}(h:quantAt x.t=some z):∃i:Nat,amgI qwL (.inr (x::r))=(i:Nat)/\i<6/\z.2=i+1/\x.t≠[]:=by
 have hz:z ∈ quantsL:=List.mem_of_find?_eq_some h;have hp:=List.find?_some h;simp only[beq_iff_eq] at hp;obtain⟨i,hi,he⟩:=List.getElem_of_mem hz;have hL:quantsL.length=6:=rfl;have h1:qwL[i]?=some z.1:=by
  rw[qwL,List.getElem?_map,List.getElem?_eq_getElem hi,he];rfl
 have key:∀ i,(h:i<quantsL.length)->quantsL[i].2=i+1/\quantsL[i].1≠[]:=by decide
 have:=key i hi
 rw[he] at this;exact⟨i,amg_at h1 hp.symm (nodup_at (by decide) h1),by omega,this.1,by rw[<-hp];exact this.2⟩
theorem passK_1 {y:Tk}{r:List Tk}(h:y.k=1):Qd (passK 1) (.inr (y::r)) y (.inr r):=⟨by simp[onw,passK,h,stp],fun ts z t hs hz=>by cases hs;simp[passK,h] at hz;exact hz.1⟩
theorem atom_q {rec:Rdr}(R:RecQ rec){m:Nat}(RS:SetQ rec m){w:World}{rb o q:Nat}{all:List Tk}{x:Tk}{r:List Tk}(TI:∀ x,x ∈ all->TokI x)(h:QS w rb all o q (.inr (x::r)))(hn:Nou (atomR rec m o q) (.inr (x::r))) :
  Calls Tryz.prog 130 #[.pointer (some ⟨rb,0,none⟩)] w (PostQ rb all o q w (.inr (x::r)) (atomR rec m o q)):=by
 have hrb:=h.lt;have K0:Keep rb w (w.alloc exZ):=(Keep.refl rb w).alloc _;have Z0:(w.alloc exZ).heap[w.heap.size]?=some exZ:=heap_alloc_new w _;have h0:=h.alloc exZ;have d4:=h0.e0;go_enter Tryz.func130,Tryz.ntmps130;go_upto_region 3 with fail;generalize w.alloc exZ=v0 at *;clear d4;have h3:=h0;clear h0;obtain⟨i3,g3,cap3,L3,hg3,hi3,hcL3,hcap3,hL3,hm3,d0,d1,-,-,-,⟨t0,t1,t2,t3⟩,hf⟩:=h3.ok;have bz:Below v0.heap.size v0 (v0.alloc (.cells #[.int .i64 0,.int .i64 0,.string ⟨#[]⟩,.int .i64 0] 73)):=(Below.refl _ v0).alloc (Nat.le_refl _) _;have hrb2:rb<v0.heap.size:=h3.lt;have hgs:g3<v0.heap.size:=by omega
 have d0b:=(bz.cell (p:=⟨rb,0,none⟩) hrb2).trans d0;have d1b:=(bz.cell (p:=⟨rb,1,none⟩) hrb2).trans d1;have u0:=(bz.cell (p:=⟨g3,i3*4,none⟩) hgs).trans t0;have u1:=(bz.cell (p:=⟨g3,i3*4+1,none⟩) hgs).trans t1;have u2:=(bz.cell (p:=⟨g3,i3*4+2,none⟩) hgs).trans t2;have u3:=(bz.cell (p:=⟨g3,i3*4+3,none⟩) hgs).trans t3;have hiI:(i3:Int)<(L3:Int):=by omega
 have h2T:=two_alloc v0 (.cells #[.int .i64 (x.k:Nat),.int .i64 x.n,stv x.t,.int .i64 (x.a:Nat)] 73);clear bz;go_upto_region 3 with fail;go_cut [3] (fun v wx=>∃bt,v=.pointer (some ⟨bt,0,none⟩)/\v0.heap.size<=bt/\wx.heap[bt]?=some (.cells #[.int .i64 (x.k:Nat),.int .i64 x.n,stv x.t,.int .i64 (x.a:Nat)] 73 (0,0))/\Below v0.heap.size v0 wx)
 case first =>
  go_region
  all_goals
   go_wp2;go_meet;exact⟨_,rfl,Nat.le_refl _,h2T.1,h2T.2⟩
 case rest =>
 obtain⟨bt,rfl,hbt0,TB,B1⟩:=hcut;clear t0 t1 t2 t3 d0 d1 hf d0b d1b u0 u1 u2 u3 h2T;have k3:=Keep.ofBelow (rb:=rb) B1;have h4:=h3.below B1;have hbt:rb<bt:=by have:=h3.lt;omega
 clear h3 B1;have Z3:=k3.blk Z0 (by have:=K0.size;omega);have K3:=K0.trans k3;clear K0 Z0;obtain⟨A1,hA1⟩:∃A,amgI cwL (.inr (x::r))=A:=⟨_,rfl⟩
 obtain⟨A2,hA2⟩:∃A,amgI qwL (.inr (x::r))=A:=⟨_,rfl⟩
 obtain⟨A3,hA3⟩:∃A,amgI [[102,97,108,115,101],[116,114,117,101]] (.inr (x::r))=A:=⟨_,rfl⟩
 obtain⟨A4,hA4⟩:∃A,amgI [[64],[40],[105,102]] (.inr (x::r))=A:=⟨_,rfl⟩
 have c5:=calls_s wc;go_wp2_with fail;refine c5.mono ?_;rintro e w5 ⟨g5,rfl,WL⟩;clear c5;have c6:=among_s TI cwL cwL_ok (h4.below WL.1) (n:=10) (cap:=10) rfl WL.2.2.1 WL.2.2.2 (by omega) (by unfold maxLen;omega);go_wp2_with fail;refine c6.mono ?_;rintro e w6 ⟨rfl,b6⟩;have B6:=WL.1.trans (b6.mono WL.1.size);have k6:=Keep.ofBelow (rb:=rb) B6;have h6:=h4.below B6;clear WL c6 b6 B6 h4;have Z6:=k6.blk Z3 (by have:=K3.size;omega);have K6:=K3.trans k6;have TB_6:=k6.blk TB (by omega);clear K3 Z3 TB;rw[hA1];have c7:=quants_s w6;go_wp2_with fail;refine c7.mono ?_;rintro e w7 ⟨g7,rfl,WL⟩;clear c7;have c8:=among_s TI qwL qwL_ok (h6.below WL.1) (n:=6) (cap:=6) rfl WL.2.2.1 WL.2.2.2 (by omega) (by unfold maxLen;omega);go_wp2_with fail;refine c8.mono ?_;rintro e w8 ⟨rfl,b8⟩;have B8:=WL.1.trans (b8.mono WL.1.size);have k8:=Keep.ofBelow (rb:=rb) B8;have h8:=h6.below B8;clear WL c8 b8 B8 h6;have Z8:=k8.blk Z6 (by have:=K6.size;omega);have K8:=K6.trans k8;have TB_8:=k8.blk TB_6 (by omega);clear K6 Z6 TB_6;rw[hA2];have WL:Wl w8 [[102,97,108,115,101],[116,114,117,101]] (World.alloc w8 (.cells #[.string ⟨#[102,97,108,115,101]⟩,.string ⟨#[116,114,117,101]⟩] 9)) w8.heap.size:=wl_new w8 [[102,97,108,115,101],[116,114,117,101]] _;have c9:=among_s TI [[102,97,108,115,101],[116,114,117,101]] (by decide) (h8.below WL.1) (n:=2) (cap:=2) rfl WL.2.2.1 WL.2.2.2 (by omega) (by unfold maxLen;omega);go_wp2_with fail;refine c9.mono ?_;rintro e w9 ⟨rfl,b9⟩;have B9:=WL.1.trans (b9.mono WL.1.size);have k9:=Keep.ofBelow (rb:=rb) B9;have h9:=h8.below B9;clear WL c9 b9 B9 h8;have Z9:=k9.blk Z8 (by have:=K8.size;omega);have K9:=K8.trans k9;have TB_9:=k9.blk TB_8 (by omega);clear K8 Z8 TB_8;rw[hA3];have WL:Wl w9 [[64],[40],[105,102]] (World.alloc w9 (.cells #[.string ⟨#[64]⟩,.string ⟨#[40]⟩,.string ⟨#[105,102]⟩] 9)) w9.heap.size:=wl_new w9 [[64],[40],[105,102]] _;have c10:=among_s TI [[64],[40],[105,102]] (by decide) (h9.below WL.1) (n:=3) (cap:=3) rfl WL.2.2.1 WL.2.2.2 (by omega) (by unfold maxLen;omega);go_wp2_with fail;refine c10.mono ?_;rintro e w10 ⟨rfl,b10⟩;have B10:=WL.1.trans (b10.mono WL.1.size);have k10:=Keep.ofBelow (rb:=rb) B10;have h10:=h9.below B10;clear WL c10 b10 B10 h9;have Z10:=k10.blk Z9 (by have:=K9.size;omega);have K10:=K9.trans k10;have TB_10:=k10.blk TB_9 (by omega);clear K9 Z9 TB_9;rw[hA4];clear hm3;obtain⟨q0,q1,q2,q3,qf⟩:=Blk.cells4 (o:=fun _=>0) (i:=0) ⟨TB_10,rfl⟩;by_cases k1:x.k=1
 ·have HE:Qd (atomR rec m o q) (.inr (x::r)) ⟨1,x.n,[],(x.a:Nat),.nil⟩ (.inr r):=qd_ok (by simp only[atomR,k1,if_true]);have b1:((x.k:Int)==1)=true:=by simp[k1]
  have hk0:x.k≠0:=by omega
  clear k1 hn hA1 hA2 hA3 hA4;obtain⟨i11,g11,cap11,L11,hg11,hi11,hcL11,hcap11,hL11,hm11,-,d1,-,-,-,-,hf⟩:=h10.ok;have h11:=h10.over (.inr hk0) d1;have k11:=Keep.at (rb:=rb) w10 1 (.int .i64 ((i11:Int)+1));clear h10;go_upto_region 10 with fail;generalize w10.setCell ⟨rb,1,none⟩ (.int .i64 ((i11:Int)+1))=w11 at *;clear d1 hf hm11;have Z11:=k11.blk Z10 (by have:=K10.size;omega);have K11:=K10.trans k11;have TB_11:=k11.blk TB_10 (by omega);clear K10 Z10 TB_10;clear q0 q1 q2 q3 qf;have KE:=K11.set5 (b:=w.heap.size) (by omega) (.int .i64 1) (.int .i64 x.n) (stv []) (.slice none 0 0) (.int .i64 x.a);have RE:=h11.set5 (b:=w.heap.size) (by omega) (.int .i64 1) (.int .i64 x.n) (stv []) (.slice none 0 0) (.int .i64 x.a);have ZE:=set5k (.int .i64 1) (.int .i64 x.n) (stv []) (.slice none 0 0) (.int .i64 x.a) Z11;obtain⟨z0,z1,z2,z3,z4,zf⟩:=box5 Z11;obtain⟨u0,u1,u2,u3,u4,-⟩:=box5 ZE;obtain⟨y00,y01,y02,y03,y0f⟩:=Blk.cells4 (o:=fun _=>0) (i:=0) ⟨TB_11,rfl⟩;have FIN:=HE;clear ZE K11 Z11 h11 TB_11;go_wp2;exact bodyPost_ret (v:=exV ⟨1,x.n,[],x.a,.nil⟩ none 0) (by simp[results,Tryz.results130,go_sem,u0,u1,u2,u3,u4,exV,Fs.len]) rfl ⟨_,_,_,_,rfl,Sl.nil _ _ _,RE,KE,FIN⟩
 have b1:((x.k:Int)==1)=false:=by simp;omega
 by_cases k2:x.k=2
 ·have HE:Qd (atomR rec m o q) (.inr (x::r)) ⟨4,0,x.t,(x.a:Nat),.nil⟩ (.inr r):=qd_ok (by simp only[atomR,k1,k2,if_true,if_false];rw[if_neg (by decide)]);have b2:((x.k:Int)==2)=true:=by simp[k2]
  have hk0:x.k≠0:=by omega
  clear k1 k2 hn hA1 hA2 hA3 hA4;obtain⟨i11,g11,cap11,L11,hg11,hi11,hcL11,hcap11,hL11,hm11,-,d1,-,-,-,-,hf⟩:=h10.ok;have h11:=h10.over (.inr hk0) d1;have k11:=Keep.at (rb:=rb) w10 1 (.int .i64 ((i11:Int)+1));clear h10;go_upto_region 13 with fail;generalize w10.setCell ⟨rb,1,none⟩ (.int .i64 ((i11:Int)+1))=w11 at *;clear d1 hf hm11;have Z11:=k11.blk Z10 (by have:=K10.size;omega);have K11:=K10.trans k11;have TB_11:=k11.blk TB_10 (by omega);clear K10 Z10 TB_10;clear q0 q1 q2 q3 qf;have KE:=K11.set5 (b:=w.heap.size) (by omega) (.int .i64 4) (.int .i64 0) (stv x.t) (.slice none 0 0) (.int .i64 x.a);have RE:=h11.set5 (b:=w.heap.size) (by omega) (.int .i64 4) (.int .i64 0) (stv x.t) (.slice none 0 0) (.int .i64 x.a);have ZE:=set5k (.int .i64 4) (.int .i64 0) (stv x.t) (.slice none 0 0) (.int .i64 x.a) Z11;obtain⟨z0,z1,z2,z3,z4,zf⟩:=box5 Z11;obtain⟨u0,u1,u2,u3,u4,-⟩:=box5 ZE;obtain⟨y00,y01,y02,y03,y0f⟩:=Blk.cells4 (o:=fun _=>0) (i:=0) ⟨TB_11,rfl⟩;have FIN:=HE;clear ZE K11 Z11 h11 TB_11;go_wp2;exact bodyPost_ret (v:=exV ⟨4,0,x.t,x.a,.nil⟩ none 0) (by simp[results,Tryz.results130,go_sem,u0,u1,u2,u3,u4,exV,Fs.len]) rfl ⟨_,_,_,_,rfl,Sl.nil _ _ _,RE,KE,FIN⟩
 have b2:((x.k:Int)==2)=false:=by simp;omega
 by_cases t0:x.t=[102,97,108,115,101]
 ·obtain rfl:A3=0:=hA3.symm.trans (amg_at (k:=0) rfl t0 (by omega));have HE:Qd (atomR rec m o q) (.inr (x::r)) ⟨2,0,[],(x.a:Nat),.nil⟩ (.inr r):=qd_ok (by simp only[atomR,k1,k2,t0,if_true,if_false]);have hxt:x.t≠[]:=by rw[t0];decide
  clear k1 k2 t0 hn hA1 hA2 hA3 hA4;obtain⟨i11,g11,cap11,L11,hg11,hi11,hcL11,hcap11,hL11,hm11,-,d1,-,-,-,-,hf⟩:=h10.ok;have h11:=h10.over (.inl hxt) d1;have k11:=Keep.at (rb:=rb) w10 1 (.int .i64 ((i11:Int)+1));clear h10;go_upto_region 16 with fail;generalize w10.setCell ⟨rb,1,none⟩ (.int .i64 ((i11:Int)+1))=w11 at *;clear d1 hf hm11;have Z11:=k11.blk Z10 (by have:=K10.size;omega);have K11:=K10.trans k11;have TB_11:=k11.blk TB_10 (by omega);clear K10 Z10 TB_10;clear q0 q1 q2 q3 qf;have KE:=K11.set5 (b:=w.heap.size) (by omega) (.int .i64 2) (.int .i64 0) (stv []) (.slice none 0 0) (.int .i64 x.a);have RE:=h11.set5 (b:=w.heap.size) (by omega) (.int .i64 2) (.int .i64 0) (stv []) (.slice none 0 0) (.int .i64 x.a);have ZE:=set5k (.int .i64 2) (.int .i64 0) (stv []) (.slice none 0 0) (.int .i64 x.a) Z11;obtain⟨z0,z1,z2,z3,z4,zf⟩:=box5 Z11;obtain⟨u0,u1,u2,u3,u4,-⟩:=box5 ZE;obtain⟨y00,y01,y02,y03,y0f⟩:=Blk.cells4 (o:=fun _=>0) (i:=0) ⟨TB_11,rfl⟩;have FIN:=HE;clear ZE K11 Z11 h11 TB_11;go_wp2;exact bodyPost_ret (v:=exV ⟨2,0,[],x.a,.nil⟩ none 0) (by simp[results,Tryz.results130,go_sem,u0,u1,u2,u3,u4,exV,Fs.len]) rfl ⟨_,_,_,_,rfl,Sl.nil _ _ _,RE,KE,FIN⟩
 by_cases t1:x.t=[116,114,117,101]
 ·obtain rfl:A3=1:=hA3.symm.trans (amg_at (k:=1) rfl t1 (fun j t hj ht=>by (obtain rfl:j=0:=by omega);simp at ht;subst ht;decide));have HE:Qd (atomR rec m o q) (.inr (x::r)) ⟨2,1,[],(x.a:Nat),.nil⟩ (.inr r):=qd_ok (by simp only[atomR,k1,k2,t0,t1,if_true,if_false];rfl);have hxt:x.t≠[]:=by rw[t1];decide
  clear k1 k2 t0 t1 hn hA1 hA2 hA3 hA4;obtain⟨i11,g11,cap11,L11,hg11,hi11,hcL11,hcap11,hL11,hm11,-,d1,-,-,-,-,hf⟩:=h10.ok;have h11:=h10.over (.inl hxt) d1;have k11:=Keep.at (rb:=rb) w10 1 (.int .i64 ((i11:Int)+1));clear h10;go_upto_region 16 with fail;generalize w10.setCell ⟨rb,1,none⟩ (.int .i64 ((i11:Int)+1))=w11 at *;clear d1 hf hm11;have Z11:=k11.blk Z10 (by have:=K10.size;omega);have K11:=K10.trans k11;have TB_11:=k11.blk TB_10 (by omega);clear K10 Z10 TB_10;clear q0 q1 q2 q3 qf;have KE:=K11.set5 (b:=w.heap.size) (by omega) (.int .i64 2) (.int .i64 1) (stv []) (.slice none 0 0) (.int .i64 x.a);have RE:=h11.set5 (b:=w.heap.size) (by omega) (.int .i64 2) (.int .i64 1) (stv []) (.slice none 0 0) (.int .i64 x.a);have ZE:=set5k (.int .i64 2) (.int .i64 1) (stv []) (.slice none 0 0) (.int .i64 x.a) Z11;obtain⟨z0,z1,z2,z3,z4,zf⟩:=box5 Z11;obtain⟨u0,u1,u2,u3,u4,-⟩:=box5 ZE;obtain⟨y00,y01,y02,y03,y0f⟩:=Blk.cells4 (o:=fun _=>0) (i:=0) ⟨TB_11,rfl⟩;have FIN:=HE;clear ZE K11 Z11 h11 TB_11;go_wp2;exact bodyPost_ret (v:=exV ⟨2,1,[],x.a,.nil⟩ none 0) (by simp[results,Tryz.results130,go_sem,u0,u1,u2,u3,u4,exV,Fs.len]) rfl ⟨_,_,_,_,rfl,Sl.nil _ _ _,RE,KE,FIN⟩
 obtain rfl:A3=-1:=hA3.symm.trans (amg_out (by simp only[List.mem_cons,List.not_mem_nil,or_false];rintro s (rfl|rfl);exact t0;exact t1));by_cases s0:x.t=[64]
 ·obtain rfl:A4=0:=hA4.symm.trans (amg_at (k:=0) rfl s0 (by omega));have C1:=(Ctx.start hn).eat (H:=fun t=>(passK 1 t).bind fun y t1=>.ok ⟨3,y.n,[],(x.a:Nat),.nil⟩ t1) (by simp only[atomR,k1,k2,t0,t1,s0,if_true,if_false];rfl);have hxt:x.t≠[]:=by rw[s0];decide
  clear k1 k2 t0 t1 s0 hn hA1 hA2 hA3 hA4;obtain⟨i11,g11,cap11,L11,hg11,hi11,hcL11,hcap11,hL11,hm11,-,d1,-,-,-,-,hf⟩:=h10.ok;have h11:=h10.over (.inl hxt) d1;have k11:=Keep.at (rb:=rb) w10 1 (.int .i64 ((i11:Int)+1));clear h10;go_upto_region 19 with fail;generalize w10.setCell ⟨rb,1,none⟩ (.int .i64 ((i11:Int)+1))=w11 at *;clear d1 hf hm11;have Z11:=k11.blk Z10 (by have:=K10.size;omega);have K11:=K10.trans k11;have TB_11:=k11.blk TB_10 (by omega);clear K10 Z10 TB_10;clear q0 q1 q2 q3 qf;cases r with
  | nil=>exact absurd rfl (h11.nn [] rfl)
  | cons y r2 =>
  have h3:=h11;clear h11;obtain⟨i3b,g3b,cap3b,L3b,hg3b,hi3b,hcL3b,hcap3b,hL3b,hm3,d0,d1,-,-,-,⟨t0,t1,t2,t3⟩,hf⟩:=h3.ok;have bz:Below w11.heap.size w11 (w11.alloc (.cells #[.int .i64 0,.int .i64 0,.string ⟨#[]⟩,.int .i64 0] 73)):=(Below.refl _ w11).alloc (Nat.le_refl _) _;have hrb2:rb<w11.heap.size:=h3.lt;have hgs:g3b<w11.heap.size:=by omega
  have d0b:=(bz.cell (p:=⟨rb,0,none⟩) hrb2).trans d0;have d1b:=(bz.cell (p:=⟨rb,1,none⟩) hrb2).trans d1;have u0:=(bz.cell (p:=⟨g3b,i3b*4,none⟩) hgs).trans t0;have u1:=(bz.cell (p:=⟨g3b,i3b*4+1,none⟩) hgs).trans t1;have u2:=(bz.cell (p:=⟨g3b,i3b*4+2,none⟩) hgs).trans t2;have u3:=(bz.cell (p:=⟨g3b,i3b*4+3,none⟩) hgs).trans t3;have hiI:(i3b:Int)<(L3b:Int):=by omega
  have h2T:=two_alloc w11 (.cells #[.int .i64 (y.k:Nat),.int .i64 y.n,stv y.t,.int .i64 (y.a:Nat)] 73);clear bz;go_upto_region 19 with fail;go_cut [8] (fun v wx=>∃bu,v=.pointer (some ⟨bu,0,none⟩)/\w11.heap.size<=bu/\wx.heap[bu]?=some (.cells #[.int .i64 (y.k:Nat),.int .i64 y.n,stv y.t,.int .i64 (y.a:Nat)] 73 (0,0))/\Below w11.heap.size w11 wx)
  case first =>
   go_region
   all_goals
    go_wp2;go_meet;exact⟨_,rfl,Nat.le_refl _,h2T.1,h2T.2⟩
  case rest =>
  obtain⟨bu,rfl,hbu0,TU,BU⟩:=hcut;clear t0 t1 t2 t3 d0 d1 hf hm3 d0b d1b u0 u1 u2 u3 h2T;have k12:=Keep.ofBelow (rb:=rb) BU;have h12:=h3.below BU;have hbu:rb<bu:=by have:=h3.lt;omega
  clear h3 BU;have Z12:=k12.blk Z11 (by have:=K11.size;omega);have K12:=K11.trans k12;have TB_12:=k12.blk TB_11 (by omega);clear K11 Z11 TB_11;obtain⟨y00,y01,y02,y03,y0f⟩:=Blk.cells4 (o:=fun _=>0) (i:=0) ⟨TB_12,rfl⟩;obtain⟨y10,y11,y12,y13,y1f⟩:=Blk.cells4 (o:=fun _=>0) (i:=0) ⟨TU,rfl⟩;by_cases ky:y.k=1
  ·have HE:=C1.step (passK_1 ky);have HE:=HE.fin;have by1:((y.k:Int)==1)=true:=by simp[ky]
   have by2:((y.k:Int) != 1)=false:=by simp[ky]
   have hk0:y.k≠0:=by omega
   clear ky C1;obtain⟨i13,g13,cap13,L13,hg13,hi13,hcL13,hcap13,hL13,hm13,-,d1,-,-,-,-,hf⟩:=h12.ok;have h13:=h12.over (.inr hk0) d1;have k13:=Keep.at (rb:=rb) wc 1 (.int .i64 ((i13:Int)+1));clear h12;go_upto_region 24 with fail;generalize wc.setCell ⟨rb,1,none⟩ (.int .i64 ((i13:Int)+1))=w13 at *;clear d1 hf hm13;have Z13:=k13.blk Z12 (by have:=K12.size;omega);have K13:=K12.trans k13;have TB_13:=k13.blk TB_12 (by omega);have TU_13:=k13.blk TU (by omega);clear K12 Z12 TB_12 TU;clear y00 y01 y02 y03 y0f y10 y11 y12 y13 y1f;have KE:=K13.set5 (b:=w.heap.size) (by omega) (.int .i64 3) (.int .i64 y.n) (stv []) (.slice none 0 0) (.int .i64 x.a);have RE:=h13.set5 (b:=w.heap.size) (by omega) (.int .i64 3) (.int .i64 y.n) (stv []) (.slice none 0 0) (.int .i64 x.a);have ZE:=set5k (.int .i64 3) (.int .i64 y.n) (stv []) (.slice none 0 0) (.int .i64 x.a) Z13;obtain⟨z0,z1,z2,z3,z4,zf⟩:=box5 Z13;obtain⟨u0,u1,u2,u3,u4,-⟩:=box5 ZE;obtain⟨y00,y01,y02,y03,y0f⟩:=Blk.cells4 (o:=fun _=>0) (i:=0) ⟨TB_13,rfl⟩;obtain⟨y10,y11,y12,y13,y1f⟩:=Blk.cells4 (o:=fun _=>0) (i:=0) ⟨TU_13,rfl⟩;have FIN:=HE;clear ZE K13 Z13 h13 TB_13 TU_13;go_wp2;exact bodyPost_ret (v:=exV ⟨3,y.n,[],x.a,.nil⟩ none 0) (by simp[results,Tryz.results130,go_sem,u0,u1,u2,u3,u4,exV,Fs.len]) rfl ⟨_,_,_,_,rfl,Sl.nil _ _ _,RE,KE,FIN⟩
  ·have HE:=C1.2 noEx (.inl (120,y.a)) (qd_bad noEx (by simp[passK,ky,Rs.bind]));have by1:((y.k:Int)==1)=false:=by simp;omega
   have by2:((y.k:Int) != 1)=true:=by simp;omega
   clear ky C1 y00 y01 y02 y03 y0f y10 y11 y12 y13 y1f;have c13:Calls Tryz.prog 35 #[.pointer (some ⟨rb,0,none⟩),.int .i64 120] wc fun r' w'=>r'=.returned (.tuple #[])/\QS w' rb all o q (.inl (120,y.a))/\Keep rb wc w':=fail_s 120 (by decide) h12;obtain⟨y00,y01,y02,y03,y0f⟩:=Blk.cells4 (o:=fun _=>0) (i:=0) ⟨TB_12,rfl⟩;obtain⟨y10,y11,y12,y13,y1f⟩:=Blk.cells4 (o:=fun _=>0) (i:=0) ⟨TU,rfl⟩;go_wp2_with fail;refine c13.mono ?_;rintro e w13 ⟨rfl,h13,k13⟩;clear c13 h12 TB_12 TU y00 y01 y02 y03 y0f y10 y11 y12 y13 y1f;have Z13:=k13.blk Z12 (by have:=K12.size;omega);have K13:=K12.trans k13;clear K12 Z12;have KE:=K13.set5 (b:=w.heap.size) (by omega) (.int .i64 0) (.int .i64 0) (stv []) (.slice none 0 0) (.int .i64 0);have RE:=h13.set5 (b:=w.heap.size) (by omega) (.int .i64 0) (.int .i64 0) (stv []) (.slice none 0 0) (.int .i64 0);have ZE:=set5k (.int .i64 0) (.int .i64 0) (stv []) (.slice none 0 0) (.int .i64 0) Z13;obtain⟨z0,z1,z2,z3,z4,zf⟩:=box5 Z13;obtain⟨u0,u1,u2,u3,u4,-⟩:=box5 ZE;have FIN:=HE;clear ZE K13 Z13 h13;go_wp2;exact bodyPost_ret (v:=exV noEx none 0) (by simp[results,Tryz.results130,go_sem,u0,u1,u2,u3,u4,exV,noEx,Fs.len]) rfl ⟨_,_,_,_,rfl,Sl.nil _ _ _,RE,KE,FIN⟩
 by_cases s1:x.t=[40]
 ·obtain rfl:A4=1:=hA4.symm.trans (amg_at (k:=1) rfl s1 (fun j t hj ht=>by (obtain rfl:j=0:=by omega);simp at ht;subst ht;decide));have C1:=(Ctx.start hn).congr (H:=(fun ts=>(enterT [40] o ts).bind fun _ t1=>(rec 1 (o+1) q t1).bind fun e t2=>(passT [41] t2).bind fun _ t4=>.ok e t4)) (fun ts hs=>by cases hs;simp only[atomR,k1,k2,t0,t1,s0,s1,if_true,if_false,argsR,argsL,Rs.bind_assoc,Rs.ok_bind,Nat.sub_self];rfl);clear k1 k2 t0 t1 s0 s1 hn hA1 hA2 hA3 hA4;have c11:=bracket_v TI [40] ⟨by decide,by decide⟩ h10;go_wp2_with fail;refine c11.mono ?_;rintro e w11 ⟨x11,st11,rfl,h11,k11,Q11⟩;have C11:=C1.step Q11;clear c11 Q11 C1;have Z11:=k11.blk Z10 (by have:=K10.size;omega);have K11:=K10.trans k11;have TB_11:=k11.blk TB_10 (by omega);clear K10 Z10 TB_10;clear q0 q1 q2 q3 qf;have c12:=R _ rb all 1 (o+1) (q) st11 TI (by omega) (by omega) h11 C11.nou;go_wp2_with fail;refine c12.mono ?_;rintro e w12 ⟨x12,ao12,cap12,st12,rfl,S12,h12,k12,Q12⟩;have C12:=C11.step Q12;clear c12 Q12 C11;have S12a:=S12.low (show (w.heap.size+1)<=_ from (by have:=lt_of_block Z11;omega));clear S12;have Z12:=k12.blk Z11 (by have:=K11.size;omega);have K12:=K11.trans k12;have TB_12:=k12.blk TB_11 (by omega);clear K11 Z11 TB_11;have h12a:=h12.alloc (.cells #[.int .i64 x12.k,.int .i64 x12.n,stv x12.nm,.slice ao12 x12.kids.len cap12,.int .i64 x12.a] 25);have K12a:=K12.alloc (.cells #[.int .i64 x12.k,.int .i64 x12.n,stv x12.nm,.slice ao12 x12.kids.len cap12,.int .i64 x12.a] 25);have Z12a:=(Below.heap_alloc w12 (.cells #[.int .i64 x12.k,.int .i64 x12.n,stv x12.nm,.slice ao12 x12.kids.len cap12,.int .i64 x12.a] 25) _ (lt_of_block Z12)).trans Z12;have TB_12a:=(Below.heap_alloc w12 (.cells #[.int .i64 x12.k,.int .i64 x12.n,stv x12.nm,.slice ao12 x12.kids.len cap12,.int .i64 x12.a] 25) _ (lt_of_block TB_12)).trans TB_12;have Y12_a:(World.alloc w12 (.cells #[.int .i64 x12.k,.int .i64 x12.n,stv x12.nm,.slice ao12 x12.kids.len cap12,.int .i64 x12.a] 25)).heap[w12.heap.size]?=some (.cells #[.int .i64 x12.k,.int .i64 x12.n,stv x12.nm,.slice ao12 x12.kids.len cap12,.int .i64 x12.a] 25):=heap_alloc_new w12 _;have S12a_12b:=S12a.allocN (.cells #[.int .i64 x12.k,.int .i64 x12.n,stv x12.nm,.slice ao12 x12.kids.len cap12,.int .i64 x12.a] 25);have hb12:rb<w12.heap.size:=by have:=K12.size;omega
  clear h12 K12 Z12 TB_12 S12a;rw[exV_out];have c13:=close_v TI [41] ⟨by decide,by decide⟩ h12a;go_wp2_with fail;refine c13.mono ?_;rintro e w13 ⟨x13,st13,rfl,h13,k13,Q13⟩;have C13:=C12.step Q13;clear c13 Q13 C12;have Z13:=k13.blk Z12a (by have:=K12a.size;omega);have K13:=K12a.trans k13;have TB_13:=k13.blk TB_12a (by omega);have Y12_13:=k13.blk Y12_a (by omega);have S12a_13:=S12a_12b.keepN k13 (by omega);clear K12a Z12a TB_12a Y12_a S12a_12b;have KE:=K13.set5 (b:=w.heap.size) (by omega) (.int .i64 x12.k) (.int .i64 x12.n) (stv x12.nm) (.slice ao12 x12.kids.len cap12) (.int .i64 x12.a);have RE:=h13.set5 (b:=w.heap.size) (by omega) (.int .i64 x12.k) (.int .i64 x12.n) (stv x12.nm) (.slice ao12 x12.kids.len cap12) (.int .i64 x12.a);have ZE:=set5k (.int .i64 x12.k) (.int .i64 x12.n) (stv x12.nm) (.slice ao12 x12.kids.len cap12) (.int .i64 x12.a) Z13;have SE:Sl _ (Nw w.heap.size) _ _:=(S12a_13.set5 (b:=w.heap.size) (by omega) (.int .i64 x12.k) (.int .i64 x12.n) (stv x12.nm) (.slice ao12 x12.kids.len cap12) (.int .i64 x12.a)).low (by omega);obtain⟨z0,z1,z2,z3,z4,zf⟩:=box5 Z13;obtain⟨u0,u1,u2,u3,u4,-⟩:=box5 ZE;obtain⟨y10,y11,y12,y13,y14,y1f⟩:=box5 Y12_13;have FIN:=C13.fin;clear ZE C13 K13 Z13 h13 TB_13 Y12_13 S12a_13;go_wp2;exact bodyPost_ret (v:=exV x12 ao12 cap12) (by simp[results,Tryz.results130,go_sem,u0,u1,u2,u3,u4,exV]) rfl ⟨_,_,_,_,rfl,SE,RE,KE,FIN⟩
 by_cases s2:x.t=[105,102]
 ·obtain rfl:A4=2:=hA4.symm.trans (amg_at (k:=2) rfl s2 (fun j t hj ht=>by (obtain rfl|rfl:j=0\/j=1:=by omega)<;>simp at ht<;>subst ht<;>decide));have EQ:∀ ts,(.inr (x::r):Sq)=.inr ts->atomR rec m o q ts=choiceR rec o q ts:=fun ts hs=>by
   cases hs;simp only[atomR,k1,k2,t0,t1,s0,s1,s2,if_true,if_false];rfl
  have HN:=hn.congr EQ;have HC:Hid (∀ X st',Qd (choiceR rec o q) (.inr (x::r)) X st'->Qd (atomR rec m o q) (.inr (x::r)) X st'):=fun X st' q=>q.congr fun ts hs=>(EQ ts hs).symm;have CC:Hid (∀ wx,QS wx rb all o q (.inr (x::r))->Calls Tryz.prog 202 #[.pointer (some ⟨rb,0,none⟩),.int .i64 (x.a:Nat)] wx (PostQ rb all o q wx (.inr (x::r)) (choiceR rec o q))):=fun wx hh=>choice_q R TI s2 hh HN;clear EQ HN k1 k2 t0 t1 s0 s1 s2 hn hA1 hA2 hA3 hA4 q0 q1 q2 q3 qf;obtain⟨y00,y01,y02,y03,y0f⟩:=Blk.cells4 (o:=fun _=>0) (i:=0) ⟨TB_10,rfl⟩;have c11:=CC.out _ h10;go_wp2_with fail;refine c11.mono ?_;rintro e w11 ⟨x11,ao11,cap11,st11,rfl,S11,h11,k11,Q11⟩;have HX:=HC.out _ _ Q11;clear c11 Q11 h10 y00 y01 y02 y03 y0f;have S11a:=S11.low (show (w.heap.size+1)<=_ from (by have:=lt_of_block Z10;omega));clear S11;have Z11:=k11.blk Z10 (by have:=K10.size;omega);have K11:=K10.trans k11;have TB_11:=k11.blk TB_10 (by omega);clear K10 Z10 TB_10;have KE:=K11.set5 (b:=w.heap.size) (by omega) (.int .i64 x11.k) (.int .i64 x11.n) (stv x11.nm) (.slice ao11 x11.kids.len cap11) (.int .i64 x11.a);have RE:=h11.set5 (b:=w.heap.size) (by omega) (.int .i64 x11.k) (.int .i64 x11.n) (stv x11.nm) (.slice ao11 x11.kids.len cap11) (.int .i64 x11.a);have ZE:=set5k (.int .i64 x11.k) (.int .i64 x11.n) (stv x11.nm) (.slice ao11 x11.kids.len cap11) (.int .i64 x11.a) Z11;have SE:Sl _ (Nw w.heap.size) _ _:=(S11a.set5 (b:=w.heap.size) (by omega) (.int .i64 x11.k) (.int .i64 x11.n) (stv x11.nm) (.slice ao11 x11.kids.len cap11) (.int .i64 x11.a)).low (by omega);obtain⟨z0,z1,z2,z3,z4,zf⟩:=box5 Z11;obtain⟨u0,u1,u2,u3,u4,-⟩:=box5 ZE;have FIN:=HX;clear ZE K11 Z11 h11 TB_11 S11a;rw[exV_out];go_wp2;exact bodyPost_ret (v:=exV x11 ao11 cap11) (by simp[results,Tryz.results130,go_sem,u0,u1,u2,u3,u4,exV]) rfl ⟨_,_,_,_,rfl,SE,RE,KE,FIN⟩
 obtain rfl:A4=-1:=hA4.symm.trans (amg_out (by simp only[List.mem_cons,List.not_mem_nil,or_false];rintro s (rfl|rfl|rfl);exact s0;exact s1;exact s2));cases hc:callAt x.t with
 | some z =>
  obtain⟨i,hi,hi10,hz1,hz2,hxt⟩:=call_some (r:=r) hc;obtain⟨z0,zn,zm⟩:=z;simp only at hz1 hz2;subst hz1;obtain rfl:A1=(i:Nat):=hA1.symm.trans hi;have hi0:(0:Int)<=(i:Int):=by omega
  have EQ:∀ ts,(.inr (x::r):Sq)=.inr ts->atomR rec m o q ts=callR rec zm i x.a o q ts:=fun ts hs=>by
   cases hs;simp only[atomR,k1,k2,t0,t1,s0,s1,s2,hc,if_false,callR,List.tail_cons];rfl
  have HN:=hn.congr EQ;have HC:Hid (∀ X st',Qd (callR rec zm i x.a o q) (.inr (x::r)) X st'->Qd (atomR rec m o q) (.inr (x::r)) X st'):=fun X st' q=>q.congr fun ts hs=>(EQ ts hs).symm;have CC:Hid (∀ wx,QS wx rb all o q (.inr (x::r))->Calls Tryz.prog 203 #[.pointer (some ⟨rb,0,none⟩),.int .i64 (i:Nat),.int .i64 (x.a:Nat)] wx (PostQ rb all o q wx (.inr (x::r)) (callR rec zm i x.a o q))):=fun wx hh=>by
   by_cases h3:i<3
   ·rw[if_pos h3] at hz2;subst hz2;exact call2_q R TI hxt h3 hh HN
   ·rw[if_neg h3] at hz2;subst hz2;exact call1_q R TI hxt ⟨by omega,hi10⟩ hh HN
  clear EQ HN k1 k2 t0 t1 s0 s1 s2 hn hA1 hA2 hA3 hA4 hc hi hz2 q0 q1 q2 q3 qf hxt;obtain⟨y00,y01,y02,y03,y0f⟩:=Blk.cells4 (o:=fun _=>0) (i:=0) ⟨TB_10,rfl⟩;have c11:=CC.out _ h10;go_wp2_with fail;refine c11.mono ?_;rintro e w11 ⟨x11,ao11,cap11,st11,rfl,S11,h11,k11,Q11⟩;have HX:=HC.out _ _ Q11;clear c11 Q11 h10 y00 y01 y02 y03 y0f;have S11a:=S11.low (show (w.heap.size+1)<=_ from (by have:=lt_of_block Z10;omega));clear S11;have Z11:=k11.blk Z10 (by have:=K10.size;omega);have K11:=K10.trans k11;have TB_11:=k11.blk TB_10 (by omega);clear K10 Z10 TB_10;have KE:=K11.set5 (b:=w.heap.size) (by omega) (.int .i64 x11.k) (.int .i64 x11.n) (stv x11.nm) (.slice ao11 x11.kids.len cap11) (.int .i64 x11.a);have RE:=h11.set5 (b:=w.heap.size) (by omega) (.int .i64 x11.k) (.int .i64 x11.n) (stv x11.nm) (.slice ao11 x11.kids.len cap11) (.int .i64 x11.a);have ZE:=set5k (.int .i64 x11.k) (.int .i64 x11.n) (stv x11.nm) (.slice ao11 x11.kids.len cap11) (.int .i64 x11.a) Z11;have SE:Sl _ (Nw w.heap.size) _ _:=(S11a.set5 (b:=w.heap.size) (by omega) (.int .i64 x11.k) (.int .i64 x11.n) (stv x11.nm) (.slice ao11 x11.kids.len cap11) (.int .i64 x11.a)).low (by omega);obtain⟨z0,z1,z2,z3,z4,zf⟩:=box5 Z11;obtain⟨u0,u1,u2,u3,u4,-⟩:=box5 ZE;have FIN:=HX;clear ZE K11 Z11 h11 TB_11 S11a;rw[exV_out];go_wp2;exact bodyPost_ret (v:=exV x11 ao11 cap11) (by simp[results,Tryz.results130,go_sem,u0,u1,u2,u3,u4,exV]) rfl ⟨_,_,_,_,rfl,SE,RE,KE,FIN⟩
 | none =>
 obtain rfl:A1=-1:=hA1.symm.trans (call_none hc);cases hc2:quantAt x.t with
 | some z =>
  obtain⟨i,hi,hi10,hz1,hxt⟩:=quant_some (r:=r) hc2;obtain⟨z0,zn⟩:=z;simp only at hz1;subst hz1;obtain rfl:A2=(i:Nat):=hA2.symm.trans hi;have hi0:(0:Int)<=(i:Int):=by omega
  have EQ:∀ ts,(.inr (x::r):Sq)=.inr ts->atomR rec m o q ts=quantR rec m x.t (i+1) o q ts:=fun ts hs=>by
   cases hs;simp only[atomR,k1,k2,t0,t1,s0,s1,s2,hc,hc2,if_false]
  have HN:=hn.congr EQ;have HC:Hid (∀ X st',Qd (quantR rec m x.t (i+1) o q) (.inr (x::r)) X st'->Qd (atomR rec m o q) (.inr (x::r)) X st'):=fun X st' q=>q.congr fun ts hs=>(EQ ts hs).symm;have CC:Hid (∀ wx,QS wx rb all o q (.inr (x::r))->Calls Tryz.prog 204 #[.pointer (some ⟨rb,0,none⟩),.int .i64 (i:Nat),.int .i64 (x.a:Nat)] wx (PostQ rb all o q wx (.inr (x::r)) (quantR rec m x.t (i+1) o q))):=fun wx hh=>quant_q R RS TI hxt hi10 hh HN;clear EQ HN k1 k2 t0 t1 s0 s1 s2 hn hA1 hA2 hA3 hA4 hc hc2 hi q0 q1 q2 q3 qf hxt;obtain⟨y00,y01,y02,y03,y0f⟩:=Blk.cells4 (o:=fun _=>0) (i:=0) ⟨TB_10,rfl⟩;have c11:=CC.out _ h10;go_wp2_with fail;refine c11.mono ?_;rintro e w11 ⟨x11,ao11,cap11,st11,rfl,S11,h11,k11,Q11⟩;have HX:=HC.out _ _ Q11;clear c11 Q11 h10 y00 y01 y02 y03 y0f;have S11a:=S11.low (show (w.heap.size+1)<=_ from (by have:=lt_of_block Z10;omega));clear S11;have Z11:=k11.blk Z10 (by have:=K10.size;omega);have K11:=K10.trans k11;have TB_11:=k11.blk TB_10 (by omega);clear K10 Z10 TB_10;have KE:=K11.set5 (b:=w.heap.size) (by omega) (.int .i64 x11.k) (.int .i64 x11.n) (stv x11.nm) (.slice ao11 x11.kids.len cap11) (.int .i64 x11.a);have RE:=h11.set5 (b:=w.heap.size) (by omega) (.int .i64 x11.k) (.int .i64 x11.n) (stv x11.nm) (.slice ao11 x11.kids.len cap11) (.int .i64 x11.a);have ZE:=set5k (.int .i64 x11.k) (.int .i64 x11.n) (stv x11.nm) (.slice ao11 x11.kids.len cap11) (.int .i64 x11.a) Z11;have SE:Sl _ (Nw w.heap.size) _ _:=(S11a.set5 (b:=w.heap.size) (by omega) (.int .i64 x11.k) (.int .i64 x11.n) (stv x11.nm) (.slice ao11 x11.kids.len cap11) (.int .i64 x11.a)).low (by omega);obtain⟨z0,z1,z2,z3,z4,zf⟩:=box5 Z11;obtain⟨u0,u1,u2,u3,u4,-⟩:=box5 ZE;have FIN:=HX;clear ZE K11 Z11 h11 TB_11 S11a;rw[exV_out];go_wp2;exact bodyPost_ret (v:=exV x11 ao11 cap11) (by simp[results,Tryz.results130,go_sem,u0,u1,u2,u3,u4,exV]) rfl ⟨_,_,_,_,rfl,SE,RE,KE,FIN⟩
 | none =>
 obtain rfl:A2=-1:=hA2.symm.trans (quant_none hc2);have HE:Qd (atomR rec m o q) (.inr (x::r)) noEx (.inl (120,x.a)):=qd_bad noEx (by simp only[atomR,k1,k2,t0,t1,s0,s1,s2,hc,hc2,if_false]);clear k1 k2 t0 t1 s0 s1 s2 hn hA1 hA2 hA3 hA4 hc hc2 q0 q1 q2 q3 qf;have c11:Calls Tryz.prog 35 #[.pointer (some ⟨rb,0,none⟩),.int .i64 120] w10 fun r' w'=>r'=.returned (.tuple #[])/\QS w' rb all o q (.inl (120,x.a))/\Keep rb w10 w':=fail_s 120 (by decide) h10;obtain⟨y00,y01,y02,y03,y0f⟩:=Blk.cells4 (o:=fun _=>0) (i:=0) ⟨TB_10,rfl⟩;go_wp2_with fail;refine c11.mono ?_;rintro e w11 ⟨rfl,h11,k11⟩;clear c11 h10 TB_10 y00 y01 y02 y03 y0f;have Z11:=k11.blk Z10 (by have:=K10.size;omega);have K11:=K10.trans k11;clear K10 Z10;have KE:=K11.set5 (b:=w.heap.size) (by omega) (.int .i64 0) (.int .i64 0) (stv []) (.slice none 0 0) (.int .i64 0);have RE:=h11.set5 (b:=w.heap.size) (by omega) (.int .i64 0) (.int .i64 0) (stv []) (.slice none 0 0) (.int .i64 0);have ZE:=set5k (.int .i64 0) (.int .i64 0) (stv []) (.slice none 0 0) (.int .i64 0) Z11;obtain⟨z0,z1,z2,z3,z4,zf⟩:=box5 Z11;obtain⟨u0,u1,u2,u3,u4,-⟩:=box5 ZE;have FIN:=HE;clear ZE K11 Z11 h11;go_wp2;exact bodyPost_ret (v:=exV noEx none 0) (by simp[results,Tryz.results130,go_sem,u0,u1,u2,u3,u4,exV,noEx,Fs.len]) rfl ⟨_,_,_,_,rfl,Sl.nil _ _ _,RE,KE,FIN⟩
theorem part_row {n row o q:Nat}(hr:row=1\/row=2\/row=4\/row=5\/row=6):partF (n+1) row o q=fun ts=>(partF n (row+1) o q ts).bind fun l t=>chainL (partF n) n row o q l t:=by
 funext ts;rcases hr with rfl|rfl|rfl|rfl|rfl<;>rfl
theorem rec_all:∀ n,n<=1000000->RecQ (partF n)/\AtmQ (partF n)
 | 0,_=>⟨fun w rb all row o q st TI h1 h7 h hn=>by
   match st,h,hn with
   | .inl (er,a),h,hn=>exact row_bad _ h
   | .inr ts,h,hn=>exact absurd rfl (hn ts rfl),fun w rb all o q x r TI h hn=>absurd rfl (hn _ rfl)⟩
 | n+1,hm=>by
  obtain⟨R,RA⟩:=rec_all n (by omega);refine⟨fun w rb all row o q st TI h1 h7 h hn=>?_,fun w rb all o q x r TI h hn=>?_⟩
  ·match st,h,hn with
   | .inl (er,a),h,hn=>exact row_bad _ h
   | .inr [],h,hn=>exact absurd rfl (h.nn [] rfl)
   | .inr (x::r),h,hn =>
    by_cases h3:row=3
    ·subst h3;exact row_3 R TI h hn
    ·by_cases h7':row=7
     ·subst h7';exact row_7 R RA TI h hn
     ·have hr:row=1\/row=2\/row=4\/row=5\/row=6:=by omega
      rw[part_row hr] at hn ⊢;exact row_c R hr TI h hn
  ·exact atom_q R (set_q R (by omega)) TI h hn
def TokW (x:Tk):Prop:=(x.k=0/\x.t=[])\/(x.k=1/\x.t=[])\/(x.k=2/\nameB x.t=true)\/(x.k=3/\wordB x.t=true)\/(x.k=4/\x.t≠[])
theorem ptok_w {k:Nat}{t:List UInt8}{a:Nat}{x:Tk}(h:ptok k t a=.inr x)(ht:t≠[]):TokW x:=by
 unfold ptok at h;split at h
 ·unfold wrdT at h;split at h
  ·rename_i hw
   injection h with h
   subst h;exact .inr (.inr (.inr (.inl ⟨rfl,hw⟩)))
  ·split at h
   ·rename_i hn
    injection h with h
    subst h;exact .inr (.inr (.inl ⟨rfl,hn⟩))
   ·cases h
 ·unfold numT at h;split at h
  ·split at h
   ·cases h
   ·injection h with h
    subst h;exact .inr (.inl ⟨rfl,rfl⟩)
  ·cases h
 ·unfold sgnT at h;split at h
  ·cases h
  ·injection h with h
   subst h;exact .inr (.inr (.inr (.inr ⟨rfl,ht⟩)))
 ·cases h
theorem lex_w (k:Nat)(t:List UInt8)(a p:Nat)(l:List UInt8)(ts:List Tk)(h:lexL k t a p l=.inr ts)(ht:k=0\/t≠[]):∀ x,x ∈ ts->TokW x:=by
 induction l generalizing k t a p ts with
 | nil =>
  intro x hx;unfold lexL at h;rcases shut_inr h with ⟨_,h2⟩|⟨hk,y,us,hp,h2,rfl⟩
  ·unfold endR at h2;injection h2 with h2
   subst h2;simp at hx;subst hx;exact .inl ⟨rfl,rfl⟩
  ·unfold endR at h2;injection h2 with h2
   subst h2;simp at hx;rcases hx with rfl|rfl
   ·exact ptok_w hp (by rcases ht with h|h;exact absurd h hk;exact h)
   ·exact .inl ⟨rfl,rfl⟩
 | cons c r ih =>
  unfold lexL at h;split at h
  ·exact ih _ _ _ _ _ h (by rcases ht with h|h;exact .inl h;exact .inr (by simp))
  ·rcases shut_inr h with ⟨_,h2⟩|⟨hk,y,us,hp,h2,rfl⟩
   ·exact ih _ _ _ _ _ h2 (.inr (by simp))
   ·intro x hx;rcases List.mem_cons.1 hx with rfl|hx
    ·exact ptok_w hp (by rcases ht with h|h;exact absurd h hk;exact h)
    ·exact ih _ _ _ _ _ h2 (.inr (by simp)) x hx
theorem scan_w {l:List UInt8}{ts:List Tk}(h:scanA l=.inr ts):∀ x,x ∈ ts->TokW x:=lex_w _ _ _ _ _ _ (scan_ok h).2.1 (.inl rfl)
theorem TokW.is {x:Tk}(h:TokW x){s:List UInt8}(hs:s≠[])(hn:nameB s=false):((x.k==3||x.k==4)&&x.t==s)=(x.t==s):=by
 by_cases e:x.t=s
 ·have h2:x.k=3\/x.k=4:=by
   rcases h with ⟨_,h⟩|⟨_,h⟩|⟨_,h⟩|⟨h,_⟩|⟨h,_⟩
   ·rw[h] at e;exact absurd e.symm hs
   ·rw[h] at e;exact absurd e.symm hs
   ·rw[e,hn] at h;cases h
   ·exact .inl h
   ·exact .inr h
  rcases h2 with h2|h2<;>simp[h2,e]
 ·simp[e]
theorem cut_list (s:ByteArray)(q:Nat):(s.extract 0 q).data.toList=s.data.toList.take q:=by
 rw[ext_list];simp
def Pce (k:Nat)(u:List UInt8):Prop:=k≠0/\∃c r,u=c::r/\cls c.toNat=k/\∀ j (h:j<r.length),tks k (c::r.take j) (r[j]).toNat=true
theorem cls_blank {r:Nat}:cls r=0 ↔ blk r=true:=by
 unfold cls;constructor
 ·intro h;by_cases hb:blk r=true
  ·exact hb
  ·rw[if_neg hb] at h
   repeat' split at h
   all_goals omega
 ·intro h;rw[if_pos h]
theorem Pce.one (c:UInt8)(h:cls c.toNat≠0):Pce (cls c.toNat) [c]:=⟨h,c,[],rfl,rfl,fun j h=>by simp at h⟩
theorem Pce.more {k:Nat}{u:List UInt8}(h:Pce k u)(c:UInt8)(ht:tks k u c.toNat=true):Pce k (u++[c]):=by
 obtain⟨h0,d,r,rfl,h1,h2⟩:=h;refine⟨h0,d,r++[c],rfl,h1,fun j hj=>?_⟩;by_cases e:j<r.length
 ·rw[List.getElem_append_left e,List.take_append_of_le_length (by omega)];exact h2 j e
 ·have e2:j=r.length:=by simp at hj;omega
  subst e2;rw[List.getElem_append_right (by omega)];simp only[Nat.sub_self,List.getElem_singleton];rw[List.take_append_of_le_length (by omega),List.take_length];exact ht
theorem mk_size (l:List UInt8):(⟨l.toArray⟩:ByteArray).size=l.length:=by show l.toArray.size=_;simp
end Go.Proofs.YtbjdkekhnajafaaGreatDoor
