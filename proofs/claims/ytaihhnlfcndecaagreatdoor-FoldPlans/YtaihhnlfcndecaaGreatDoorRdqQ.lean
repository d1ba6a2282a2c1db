import Derived.Test.YtaihhnlfcndecaaGreatDoorRdqM
set_option maxRecDepth 100000
set_option maxHeartbeats 8000000
namespace Go.Proofs.YtaihhnlfcndecaaGreatDoor
open Go.ChangeShapes Go.WideShapes Go.ChangeAt Go.RowKit
set_option linter.unusedVariables false
set_option linter.unusedSimpArgs false
theorem qd_ok {f:List Tk->Rs Ex}{x:Tk}{r t:List Tk}{X:Ex}(h:f (x::r)=.ok X t):Qd f (.inr (x::r)) X (.inr t):=⟨by simp only[onw];rw[h];rfl,fun ts y t2 hs hy=>by cases hs;rw[h] at hy;exact (Rs.ok_inj hy).1⟩
theorem amg_at {L:List (List UInt8)}{x:Tk}{r:List Tk}{k:Nat}{s:List UInt8}(hk:L[k]?=some s)(hs:x.t=s)(hd:∀ j t,j<k->L[j]?=some t->t≠s):amgI L (.inr (x::r))=(k:Nat):=amg_yes hk (by simp[isS,hs]) fun j t hj ht=>by
 have:=hd j t hj ht
 simp only[isS,beq_eq_false_iff_ne,hs];exact fun e=>this e.symm
theorem amg_out {L:List (List UInt8)}{x:Tk}{r:List Tk}(h:∀ s,s ∈ L->x.t≠s):amgI L (.inr (x::r))=-1:=amg_no fun j t _ ht=>by
 have:=h t (List.mem_of_getElem? ht)
 simpa [isS] using this
theorem TokI.not {x:Tk}(h:TokI x)(hk:x.k≠3/\x.k≠4){s:List UInt8}(hs:s≠[])(hn:nameB s=false):x.t≠s:=fun e=>by
 have:=h s hs hn
 simp[hk.1,hk.2,e] at this
theorem set_bad {w:World}{rb o q er a:Nat}{all:List Tk}(f:List Tk->Rs Ex)(h:QS w rb all o q (.inl (er,a))) :
  Calls Tryz.prog 179 #[.pointer (some ⟨rb,0,none⟩)] w (PostQ rb all o q w (.inl (er,a)) f):=by
 have hrb:=h.lt;have h0:=h.alloc exZ;have K0:Keep rb w (w.alloc exZ):=(Keep.refl rb w).alloc _;have Z0:(w.alloc exZ).heap[w.heap.size]?=some exZ:=heap_alloc_new w _;obtain ⟨hb,c4,-⟩:=h0.bad;have hb2:((er:Int) != 0)=true:=by simpa using hb
 have FIN:Hid (∀ wx st',(QS wx rb all o q st'/\Keep rb w wx/\st'=.inl (er,a))->PostQ rb all o q w (.inl (er,a)) f (.returned (exV noEx none 0)) wx):=fun wx st' hh=>⟨noEx,none,0,st',rfl,Sl.nil _ _ _,hh.1,hh.2.1,by rw[hh.2.2];exact Qd.bad f _ _⟩
 obtain ⟨z0,z1,z2,z3,z4,zf⟩:=box5 Z0;go_enter Tryz.func179,Tryz.ntmps179;go_wp2;exact bodyPost_ret (v:=exV noEx none 0) (by simp[results,Tryz.results179,go_sem,exV,noEx,Fs.len]) rfl (FIN.out _ _ ⟨h0,K0,rfl⟩)
theorem set_ok {rec:Rdr}(R:RecQ rec){w:World}{rb o q m:Nat}{all:List Tk}{x:Tk}{r:List Tk}(hm:m<=1000000)(TI:∀ x,x ∈ all->TokI x)(h:QS w rb all o q (.inr (x::r)))(hn:Nou (setR rec m o q) (.inr (x::r))) :
  Calls Tryz.prog 179 #[.pointer (some ⟨rb,0,none⟩)] w (PostQ rb all o q w (.inr (x::r)) (setR rec m o q)):=by
 have hrb:=h.lt;have K0:Keep rb w (w.alloc exZ):=(Keep.refl rb w).alloc _;have Z0:(w.alloc exZ).heap[w.heap.size]?=some exZ:=heap_alloc_new w _;have h0:=h.alloc exZ;have d4:=h0.e0;go_enter Tryz.func179,Tryz.ntmps179;go_upto_region 3 with fail;generalize w.alloc exZ=v0 at *;clear d4;have h3:=h0;clear h0;obtain ⟨i3,g3,cap3,L3,hg3,hi3,hcL3,hcap3,hL3,hm3,d0,d1,-,-,-,⟨t0,t1,t2,t3⟩,hf⟩:=h3.ok;have bz:Below v0.heap.size v0 (v0.alloc (.cells #[.int .i64 0,.int .i64 0,.string ⟨#[]⟩,.int .i64 0] 57)):=(Below.refl _ v0).alloc (Nat.le_refl _) _;have hrb2:rb<v0.heap.size:=h3.lt;have hgs:g3<v0.heap.size:=by omega
 have d0b:=(bz.cell (p:=⟨rb,0,none⟩) hrb2).trans d0;have d1b:=(bz.cell (p:=⟨rb,1,none⟩) hrb2).trans d1;have u0:=(bz.cell (p:=⟨g3,i3*4,none⟩) hgs).trans t0;have u1:=(bz.cell (p:=⟨g3,i3*4+1,none⟩) hgs).trans t1;have u2:=(bz.cell (p:=⟨g3,i3*4+2,none⟩) hgs).trans t2;have u3:=(bz.cell (p:=⟨g3,i3*4+3,none⟩) hgs).trans t3;have hiI:(i3:Int)<(L3:Int):=by omega
 have h2T:=two_alloc v0 (.cells #[.int .i64 (x.k:Nat),.int .i64 x.n,stv x.t,.int .i64 (x.a:Nat)] 57);clear bz;go_upto_region 3 with fail
 go_cut [3] (fun v wx=>∃bt,v=.pointer (some ⟨bt,0,none⟩)/\v0.heap.size<=bt/\wx.heap[bt]?=some (.cells #[.int .i64 (x.k:Nat),.int .i64 x.n,stv x.t,.int .i64 (x.a:Nat)] 57 (0,0))/\Below v0.heap.size v0 wx)
 case first =>
  go_region
  all_goals
   go_wp2;go_meet;exact ⟨_,rfl,Nat.le_refl _,h2T.1,h2T.2⟩
 case rest =>
 obtain ⟨bt,rfl,hbt0,TB,B1⟩:=hcut;clear t0 t1 t2 t3 d0 d1 hf d0b d1b u0 u1 u2 u3 h2T;have k3:=Keep.ofBelow (rb:=rb) B1;have h4:=h3.below B1;have hbt:rb<bt:=by have:=h3.lt;omega
 clear h3 B1;have Z3:=k3.blk Z0 (by have:=K0.size;omega)
 have K3:=K0.trans k3;clear K0 Z0;obtain ⟨A,hA⟩:∃A,amgI [[118,101,114,116,105,99,101,115],[97,114,111,117,110,100],[123]] (.inr (x::r))=A:=⟨_,rfl⟩;have WL:Wl wc [[118,101,114,116,105,99,101,115],[97,114,111,117,110,100],[123]] (World.alloc wc (.cells #[.string ⟨#[118,101,114,116,105,99,101,115]⟩,.string ⟨#[97,114,111,117,110,100]⟩,.string ⟨#[123]⟩] 9)) wc.heap.size:=wl_new wc [[118,101,114,116,105,99,101,115],[97,114,111,117,110,100],[123]] _;have c5:=among_s TI [[118,101,114,116,105,99,101,115],[97,114,111,117,110,100],[123]] (by decide) (h4.below WL.1) (n:=3) (cap:=3) rfl WL.2.2.1 WL.2.2.2 (by omega) (by unfold maxLen;omega)
 go_wp2_with fail;refine c5.mono ?_;rintro e w5 ⟨rfl,b5⟩;have B5:=WL.1.trans (b5.mono WL.1.size);have k5:=Keep.ofBelow (rb:=rb) B5;have h5:=h4.below B5;clear WL c5 b5 B5 h4;have Z5:=k5.blk Z3 (by have:=K3.size;omega)
 have K5:=K3.trans k5;have TB_5:=k5.blk TB (by omega)
 clear K3 Z3 TB;rw[hA];have TX:=TI x hm3;clear hm3;by_cases hx0:x.t=[118,101,114,116,105,99,101,115]
 ·obtain rfl:A=0:=hA.symm.trans (amg_at (k:=0) rfl hx0 (by omega))
  have hk:¬x.k=2:=fun e=>TX.not (by omega) (by decide) (by decide) hx0
  have HE:Qd (setR rec m o q) (.inr (x::r)) ⟨22,0,[],(x.a:Nat),.nil⟩ (.inr r):=qd_ok (by simp only[setR,hk,hx0,if_true,if_false])
  have hxt:x.t≠[]:=by rw[hx0];decide
  clear hA hx0 hk TX hn;obtain ⟨i6,g6,cap6,L6,hg6,hi6,hcL6,hcap6,hL6,hm6,-,d1,-,-,-,-,hf⟩:=h5.ok;have h6:=h5.over (.inl hxt) d1;have k6:=Keep.at (rb:=rb) w5 1 (.int .i64 ((i6:Int)+1));clear h5;go_upto_region 7 with fail;generalize w5.setCell ⟨rb,1,none⟩ (.int .i64 ((i6:Int)+1))=w6 at *;clear d1 hf hm6;have Z6:=k6.blk Z5 (by have:=K5.size;omega)
  have K6:=K5.trans k6;have TB_6:=k6.blk TB_5 (by omega)
  clear K5 Z5 TB_5;have KE:=K6.set5 (b:=w.heap.size) (by omega) (.int .i64 22) (.int .i64 0) (stv []) (.slice none 0 0) (.int .i64 x.a)
  have RE:=h6.set5 (b:=w.heap.size) (by omega) (.int .i64 22) (.int .i64 0) (stv []) (.slice none 0 0) (.int .i64 x.a)
  have ZE:=set5k (.int .i64 22) (.int .i64 0) (stv []) (.slice none 0 0) (.int .i64 x.a) Z6;obtain ⟨z0,z1,z2,z3,z4,zf⟩:=box5 Z6;obtain ⟨u0,u1,u2,u3,u4,-⟩:=box5 ZE;obtain ⟨y00,y01,y02,y03,y0f⟩:=Blk.cells4 (o:=fun _=>0) (i:=0) ⟨TB_6,rfl⟩
  have FIN:=HE;clear ZE K6 Z6 h6 TB_6;go_wp2;exact bodyPost_ret (v:=exV ⟨22,0,[],x.a,.nil⟩ none 0) (by simp[results,Tryz.results179,go_sem,u0,u1,u2,u3,u4,exV,Fs.len]) rfl ⟨_,_,_,_,rfl,Sl.nil _ _ _,RE,KE,FIN⟩
 by_cases hx1:x.t=[97,114,111,117,110,100]
 ·obtain rfl:A=1:=hA.symm.trans (amg_at (k:=1) rfl hx1 (fun j t hj ht=>by (obtain rfl:j=0:=by omega);simp at ht;subst ht;decide))
  have hk:¬x.k=2:=fun e=>TX.not (by omega) (by decide) (by decide) hx1
  have C1:=(Ctx.start hn).eat (H:=(fun ts=>(enterT [40] o ts).bind fun _ t1=>(rec 1 (o+1) q t1).bind fun e t2=>(passT [41] t2).bind fun _ t4=>.ok ⟨24,0,[],(x.a:Nat),one e⟩ t4)) (by simp only[setR,hk,hx0,hx1,if_true,if_false,argsR,argsL,Rs.bind_assoc,Rs.ok_bind,Nat.sub_self];rfl)
  have hxt:x.t≠[]:=by rw[hx1];decide
  clear hA hx0 hx1 hk TX hn;obtain ⟨i6,g6,cap6,L6,hg6,hi6,hcL6,hcap6,hL6,hm6,-,d1,-,-,-,-,hf⟩:=h5.ok;have h6:=h5.over (.inl hxt) d1;have k6:=Keep.at (rb:=rb) w5 1 (.int .i64 ((i6:Int)+1));clear h5;go_upto_region 10 with fail;generalize w5.setCell ⟨rb,1,none⟩ (.int .i64 ((i6:Int)+1))=w6 at *;clear d1 hf hm6;have Z6:=k6.blk Z5 (by have:=K5.size;omega)
  have K6:=K5.trans k6;have TB_6:=k6.blk TB_5 (by omega)
  clear K5 Z5 TB_5;have c7:=bracket_v TI [40] ⟨by decide,by decide⟩ h6
  go_wp2_with fail;refine c7.mono ?_;rintro e w7 ⟨x7,st7,rfl,h7,k7,Q7⟩;have C7:=C1.step Q7;clear c7 Q7 C1;have Z7:=k7.blk Z6 (by have:=K6.size;omega)
  have K7:=K6.trans k7;have TB_7:=k7.blk TB_6 (by omega)
  clear K6 Z6 TB_6;have c8:=R _ rb all 1 (o+1) (q) st7 TI (by omega) (by omega) h7 C7.nou
  go_wp2_with fail;refine c8.mono ?_;rintro e w8 ⟨x8,ao8,cap8,st8,rfl,S8,h8,k8,Q8⟩;have C8:=C7.step Q8;clear c8 Q8 C7;have S8a:=S8.low (show (w.heap.size+1)<=_ from (by have:=lt_of_block Z7;omega))
  clear S8;have Z8:=k8.blk Z7 (by have:=K7.size;omega)
  have K8:=K7.trans k8;have TB_8:=k8.blk TB_7 (by omega)
  clear K7 Z7 TB_7;have h8a:=h8.alloc (.cells #[.int .i64 x8.k,.int .i64 x8.n,stv x8.nm,.slice ao8 x8.kids.len cap8,.int .i64 x8.a] 25);have K8a:=K8.alloc (.cells #[.int .i64 x8.k,.int .i64 x8.n,stv x8.nm,.slice ao8 x8.kids.len cap8,.int .i64 x8.a] 25);have Z8a:=(Below.heap_alloc w8 (.cells #[.int .i64 x8.k,.int .i64 x8.n,stv x8.nm,.slice ao8 x8.kids.len cap8,.int .i64 x8.a] 25) _ (lt_of_block Z8)).trans Z8;have TB_8a:=(Below.heap_alloc w8 (.cells #[.int .i64 x8.k,.int .i64 x8.n,stv x8.nm,.slice ao8 x8.kids.len cap8,.int .i64 x8.a] 25) _ (lt_of_block TB_8)).trans TB_8;have Y8_a:(World.alloc w8 (.cells #[.int .i64 x8.k,.int .i64 x8.n,stv x8.nm,.slice ao8 x8.kids.len cap8,.int .i64 x8.a] 25)).heap[w8.heap.size]?=some (.cells #[.int .i64 x8.k,.int .i64 x8.n,stv x8.nm,.slice ao8 x8.kids.len cap8,.int .i64 x8.a] 25):=heap_alloc_new w8 _;have S8a_8b:=S8a.allocN (.cells #[.int .i64 x8.k,.int .i64 x8.n,stv x8.nm,.slice ao8 x8.kids.len cap8,.int .i64 x8.a] 25);have hb8:rb<w8.heap.size:=by have:=K8.size;omega
  clear h8 K8 Z8 TB_8 S8a;rw[exV_out];have c9:=close_v TI [41] ⟨by decide,by decide⟩ h8a
  go_wp2_with fail;refine c9.mono ?_;rintro e w9 ⟨x9,st9,rfl,h9,k9,Q9⟩;have C9:=C8.step Q9;clear c9 Q9 C8;have Z9:=k9.blk Z8a (by have:=K8a.size;omega)
  have K9:=K8a.trans k9;have TB_9:=k9.blk TB_8a (by omega)
  have Y8_9:=k9.blk Y8_a (by omega)
  have S8a_9:=S8a_8b.keepN k9 (by omega)
  clear K8a Z8a TB_8a Y8_a S8a_8b;have NS:Sl (World.alloc w9 (.cells [.int .i64 x8.k,.int .i64 x8.n,stv x8.nm,.slice ao8 x8.kids.len cap8,.int .i64 x8.a].toArray 25)) (Nw (w.heap.size+1)) (one x8) (some ⟨w9.heap.size,0,none⟩):=Sl.fresh _ 25 (Fc.one (e:=x8) cap8 S8a_9) (by have:=lt_of_block Z9;omega)
  have KF:=K9.alloc (.cells [.int .i64 x8.k,.int .i64 x8.n,stv x8.nm,.slice ao8 x8.kids.len cap8,.int .i64 x8.a].toArray 25);have RF:=h9.alloc (.cells [.int .i64 x8.k,.int .i64 x8.n,stv x8.nm,.slice ao8 x8.kids.len cap8,.int .i64 x8.a].toArray 25);have ZF:=(Below.heap_alloc w9 (.cells [.int .i64 x8.k,.int .i64 x8.n,stv x8.nm,.slice ao8 x8.kids.len cap8,.int .i64 x8.a].toArray 25) _ (lt_of_block Z9)).trans Z9;have KE:=KF.set5 (b:=w.heap.size) (by omega) (.int .i64 24) (.int .i64 0) (stv []) (.slice (some ⟨w9.heap.size,0,none⟩) 1 1) (.int .i64 x.a)
  have RE:=RF.set5 (b:=w.heap.size) (by omega) (.int .i64 24) (.int .i64 0) (stv []) (.slice (some ⟨w9.heap.size,0,none⟩) 1 1) (.int .i64 x.a)
  have ZE:=set5k (.int .i64 24) (.int .i64 0) (stv []) (.slice (some ⟨w9.heap.size,0,none⟩) 1 1) (.int .i64 x.a) ZF;have SE:Sl _ (Nw w.heap.size) _ _:=(NS.set5 (b:=w.heap.size) (by omega) (.int .i64 24) (.int .i64 0) (stv []) (.slice (some ⟨w9.heap.size,0,none⟩) 1 1) (.int .i64 x.a)).low (by omega)
  obtain ⟨z0,z1,z2,z3,z4,zf⟩:=box5 ZF;obtain ⟨u0,u1,u2,u3,u4,-⟩:=box5 ZE;have ylt0:bt<w9.heap.size:=lt_of_block TB_9;obtain ⟨y00,y01,y02,y03,y0f⟩:=Blk.cells4 (o:=fun _=>0) (i:=0) ⟨TB_9,rfl⟩
  obtain ⟨y10,y11,y12,y13,y14,y1f⟩:=box5 Y8_9;have FIN:=C9.fin;clear C9 ZE ZF KF RF NS K9 Z9 h9 TB_9 Y8_9 S8a_9;go_wp2;exact bodyPost_ret (v:=exV ⟨24,0,[],x.a,(one x8)⟩ (some ⟨w9.heap.size,0,none⟩) 1) (by simp[results,Tryz.results179,go_sem,u0,u1,u2,u3,u4,exV];rfl) rfl ⟨_,_,_,_,rfl,SE,RE,KE,FIN⟩
 by_cases hx2:x.t=[123]
 ·obtain rfl:A=2:=hA.symm.trans (amg_at (k:=2) rfl hx2 (fun j t hj ht=>by (obtain rfl|rfl:j=0\/j=1:=by omega) <;> simp at ht <;> subst ht <;> decide))
  have hk:¬x.k=2:=fun e=>TX.not (by omega) (by decide) (by decide) hx2
  have EQ:∀ ts,(.inr (x::r):Sq)=.inr ts->setR rec m o q ts=listR rec m o q ts:=fun ts hs=>by
   cases hs;simp only[setR,hk,hx0,hx1,if_false];rfl
  have HN:=hn.congr EQ;have HC:Hid (∀ X st',Qd (listR rec m o q) (.inr (x::r)) X st'->Qd (setR rec m o q) (.inr (x::r)) X st'):=fun X st' q=>q.congr fun ts hs=>(EQ ts hs).symm
  clear EQ hA hx0 hx1 hx2 hk TX hn;obtain ⟨y00,y01,y02,y03,y0f⟩:=Blk.cells4 (o:=fun _=>0) (i:=0) ⟨TB_5,rfl⟩
  have c6:=list_q R hm TI h5 HN;go_wp2_with fail;refine c6.mono ?_;rintro e w6 ⟨x6,ao6,cap6,st6,rfl,S6,h6,k6,Q6⟩;have HX:=HC.out _ _ Q6;clear c6 Q6 h5 y00 y01 y02 y03 y0f;have S6a:=S6.low (show (w.heap.size+1)<=_ from (by have:=lt_of_block Z5;omega))
  clear S6;have Z6:=k6.blk Z5 (by have:=K5.size;omega)
  have K6:=K5.trans k6;have TB_6:=k6.blk TB_5 (by omega)
  clear K5 Z5 TB_5;have KE:=K6.set5 (b:=w.heap.size) (by omega) (.int .i64 x6.k) (.int .i64 x6.n) (stv x6.nm) (.slice ao6 x6.kids.len cap6) (.int .i64 x6.a)
  have RE:=h6.set5 (b:=w.heap.size) (by omega) (.int .i64 x6.k) (.int .i64 x6.n) (stv x6.nm) (.slice ao6 x6.kids.len cap6) (.int .i64 x6.a)
  have ZE:=set5k (.int .i64 x6.k) (.int .i64 x6.n) (stv x6.nm) (.slice ao6 x6.kids.len cap6) (.int .i64 x6.a) Z6;have SE:Sl _ (Nw w.heap.size) _ _:=(S6a.set5 (b:=w.heap.size) (by omega) (.int .i64 x6.k) (.int .i64 x6.n) (stv x6.nm) (.slice ao6 x6.kids.len cap6) (.int .i64 x6.a)).low (by omega)
  obtain ⟨z0,z1,z2,z3,z4,zf⟩:=box5 Z6;obtain ⟨u0,u1,u2,u3,u4,-⟩:=box5 ZE;have FIN:=HX;clear ZE K6 Z6 h6 TB_6 S6a;rw[exV_out];go_wp2;exact bodyPost_ret (v:=exV x6 ao6 cap6) (by simp[results,Tryz.results179,go_sem,u0,u1,u2,u3,u4,exV]) rfl ⟨_,_,_,_,rfl,SE,RE,KE,FIN⟩
 obtain rfl:A=-1:=hA.symm.trans (amg_out (by simp only[List.mem_cons,List.not_mem_nil,or_false];rintro s (rfl|rfl|rfl);exact hx0;exact hx1;exact hx2))
 by_cases hk:x.k=2
 ·have HE:Qd (setR rec m o q) (.inr (x::r)) ⟨23,0,x.t,(x.a:Nat),.nil⟩ (.inr r):=qd_ok (by simp only[setR,hk,if_true])
  have bk:((x.k:Int)==2)=true:=by simp[hk]
  have hk0:x.k≠0:=by omega
  clear hA hx0 hx1 hx2 hk TX hn;obtain ⟨q0,q1,q2,q3,qf⟩:=Blk.cells4 (o:=fun _=>0) (i:=0) ⟨TB_5,rfl⟩
  obtain ⟨i6,g6,cap6,L6,hg6,hi6,hcL6,hcap6,hL6,hm6,-,d1,-,-,-,-,hf⟩:=h5.ok;have h6:=h5.over (.inr hk0) d1;have k6:=Keep.at (rb:=rb) w5 1 (.int .i64 ((i6:Int)+1));clear h5;go_upto_region 18 with fail;generalize w5.setCell ⟨rb,1,none⟩ (.int .i64 ((i6:Int)+1))=w6 at *;clear d1 hf hm6;have Z6:=k6.blk Z5 (by have:=K5.size;omega)
  have K6:=K5.trans k6;have TB_6:=k6.blk TB_5 (by omega)
  clear K5 Z5 TB_5;clear q0 q1 q2 q3 qf;have KE:=K6.set5 (b:=w.heap.size) (by omega) (.int .i64 23) (.int .i64 0) (stv x.t) (.slice none 0 0) (.int .i64 x.a)
  have RE:=h6.set5 (b:=w.heap.size) (by omega) (.int .i64 23) (.int .i64 0) (stv x.t) (.slice none 0 0) (.int .i64 x.a)
  have ZE:=set5k (.int .i64 23) (.int .i64 0) (stv x.t) (.slice none 0 0) (.int .i64 x.a) Z6;obtain ⟨z0,z1,z2,z3,z4,zf⟩:=box5 Z6;obtain ⟨u0,u1,u2,u3,u4,-⟩:=box5 ZE;obtain ⟨y00,y01,y02,y03,y0f⟩:=Blk.cells4 (o:=fun _=>0) (i:=0) ⟨TB_6,rfl⟩
  have FIN:=HE;clear ZE K6 Z6 h6 TB_6;go_wp2;exact bodyPost_ret (v:=exV ⟨23,0,x.t,x.a,.nil⟩ none 0) (by simp[results,Tryz.results179,go_sem,u0,u1,u2,u3,u4,exV,Fs.len]) rfl ⟨_,_,_,_,rfl,Sl.nil _ _ _,RE,KE,FIN⟩
 ·have HE:Qd (setR rec m o q) (.inr (x::r)) noEx (.inl (120,x.a)):=qd_bad noEx (by simp only[setR,hk,hx0,hx1,if_false];simp[enterT,hx2,Rs.bind])
  have bk:((x.k:Int)==2)=false:=by simp;omega
  clear hA hx0 hx1 hx2 hk TX hn;have c6:Calls Tryz.prog 32 #[.pointer (some ⟨rb,0,none⟩),.int .i64 120] w5 fun r' w'=>r'=.returned (.tuple #[])/\QS w' rb all o q (.inl (120,x.a))/\Keep rb w5 w':=fail_s 120 (by decide) h5
  obtain ⟨y00,y01,y02,y03,y0f⟩:=Blk.cells4 (o:=fun _=>0) (i:=0) ⟨TB_5,rfl⟩
  go_wp2_with fail;refine c6.mono ?_;rintro e w6 ⟨rfl,h6,k6⟩;clear c6 h5 TB_5 y00 y01 y02 y03 y0f;have Z6:=k6.blk Z5 (by have:=K5.size;omega)
  have K6:=K5.trans k6;clear K5 Z5;have KE:=K6.set5 (b:=w.heap.size) (by omega) (.int .i64 0) (.int .i64 0) (stv []) (.slice none 0 0) (.int .i64 0)
  have RE:=h6.set5 (b:=w.heap.size) (by omega) (.int .i64 0) (.int .i64 0) (stv []) (.slice none 0 0) (.int .i64 0)
  have ZE:=set5k (.int .i64 0) (.int .i64 0) (stv []) (.slice none 0 0) (.int .i64 0) Z6;obtain ⟨z0,z1,z2,z3,z4,zf⟩:=box5 Z6;obtain ⟨u0,u1,u2,u3,u4,-⟩:=box5 ZE;have FIN:=HE;clear ZE K6 Z6 h6;go_wp2;exact bodyPost_ret (v:=exV noEx none 0) (by simp[results,Tryz.results179,go_sem,u0,u1,u2,u3,u4,exV,noEx,Fs.len]) rfl ⟨_,_,_,_,rfl,Sl.nil _ _ _,RE,KE,FIN⟩
theorem set_q {rec:Rdr}(R:RecQ rec){m:Nat}(hm:m<=1000000):SetQ rec m:=by
 intro w rb all o q st TI h hn
 match st,h,hn with
 | .inl (er,a),h,hn=>exact set_bad _ h
 | .inr [],h,hn=>exact absurd rfl (h.nn [] rfl)
 | .inr (x::r),h,hn=>exact set_ok R hm TI h hn
end Go.Proofs.YtaihhnlfcndecaaGreatDoor
