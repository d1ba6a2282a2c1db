import Derived.Test.YtpdfdhkdfkhfkaaDoorReB
set_option maxRecDepth 100000
set_option maxHeartbeats 8000000
namespace Go.Proofs.YtpdfdhkdfkhfkaaDoor
open Go.ChangeShapes Go.WideShapes Go.ChangeAt Go.RowKit
set_option linter.unusedVariables false
set_option linter.unusedSimpArgs false
theorem more_opn {o r:Nat}(a:Nat)(h:fitE o a r=true):((r:Nat):Int)+moreI o=((opnE o r:Nat):Int):=by
 unfold moreI opnE;unfold fitE at h;by_cases h1:20<=o/\o<=23
 ·rw[if_pos h1,if_pos h1];omega
 ·rw[if_neg h1,if_neg h1];by_cases h2:o=25
  ·subst h2;simp at h;rw[if_pos rfl,if_pos rfl];omega
  ·rw[if_neg h2,if_neg h2];omega
theorem looks_0 (w:World)(o:Nat->Nat)(vb ls cap:Nat)(p:Pl)(c:Cd)(v:Vw)(n k oo aa dd:Nat)(s:St)(hr:rgtB c=true)(V:VwOk n v)(D:VwD v)(B:VwB v)(hn:n=c.ws.length)(hn2:n<=32768)(hk:v.tb[k]?=some (some s))(ho:opN c k=oo)(ha:aN c k=aa)(hd:bN c k=dd)(Wd:WdR c oo aa dd)(hC:∀ w' o',Step I2q w o w' o'->CdW w' p c)(hM:WkM w o vb ls cap p c (0,v))(h0:oo=0) :
  Calls Tryd.prog 18 #[.pointer (some ⟨vb,0,none⟩),.int .i64 (k:Nat)] w (PostQ w o vb ls cap p c (lookW c oo aa dd k s v)):=by
 have S:=V.sts k s hk;have hkl:k<v.tb.length:=(List.getElem?_eq_some_iff.1 hk).1;have hkn:k<n:=by rw[<-V.tl];exact hkl
 have hkw:k<c.ws.length:=by rw[<-hn];exact hkn
 have hC0:=hC w o (Step.refl _ _ _);obtain⟨sb,hsb⟩:∃sb,sb=bs s.1:=⟨_,rfl⟩
 obtain⟨g,hg⟩:∃g,g=w.heap.size:=⟨_,rfl⟩
 obtain⟨dn,hdn⟩:∃dn,dn=v.dn.getD k false:=⟨_,rfl⟩
 obtain⟨w1,hw1⟩:∃w1,w1=w.alloc (.cells #[.string sb,.int .i64 (s.2:Nat),.bool true,.bool dn] 51):=⟨_,rfl⟩
 obtain⟨o1,ho1⟩:∃o1,o1=newLab w o 0:=⟨_,rfl⟩
 have S1:Step (fun _=>False) w o w1 o1:=by rw[hw1,ho1];exact new_q o _
 have S1':Step I2q w o w1 o1:=S1.mono (fun _ h=>h.elim);have M1:=hM.step S1 id id;have hb1:w1.heap[g]?=some (.cells #[.string sb,.int .i64 (s.2:Nat),.bool true,.bool dn] 51 (0,0)):=by rw[hw1,hg];exact h1G w _
 have hgl:g<w1.heap.size:=lt_of_block hb1
 -- the state's cells
 obtain⟨gs',cs',hgs,-,-,-,-,hgc,-⟩:=hM.rs.pos (by show 0<v.tb.length;omega);simp only[Value.slice.injEq,Option.some.injEq,Addr.mk.injEq,and_true,true_and] at hgs;obtain⟨rfl,rfl⟩:=hgs;have hgd:v.tb.getD k none=some s:=by rw[List.getD_eq_getElem?_getD,hk];rfl
 have l0:=(hgc (k*4+0) (by simp only;omega)).trans (stL_at v hkl (by decide:0<4));have l1:=(hgc (k*4+1) (by simp only;omega)).trans (stL_at v hkl (by decide:1<4));have l2:=(hgc (k*4+2) (by simp only;omega)).trans (stL_at v hkl (by decide:2<4));have l3:=(hgc (k*4+3) (by simp only;omega)).trans (stL_at v hkl (by decide:3<4));rw[Nat.add_zero] at l0;rw[hgd,<-hdn] at l0 l1 l2 l3;simp only[q4,List.getElem?_cons_zero,List.getElem?_cons_succ] at l0 l1 l2 l3;rw[<-hsb] at l0;obtain⟨⟨-,-,-,-,a4,-,-,-,-⟩,-⟩:=cells9q hM.blk.1;obtain⟨⟨d0,d1,d2,d3,-,-,-,-,d8⟩,df⟩:=cells9q M1.blk.1;simp only at a4 d8;obtain⟨e0,e1,e2,e3⟩:=box4_cells hb1
 -- the word
 have hws:=(hC w1 o1 S1').ws;obtain⟨qb,qo,hqa,hql,hqc⟩:=hws.at (wsV_at hkw);have hu:=hC0.ok.ws _ (List.getElem_mem hkw);have eget:c.ws.getD k 0=c.ws[k]:=by simp[List.getD_eq_getElem?_getD,List.getElem?_eq_getElem hkw]
 unfold opN at ho;unfold aN at ha;unfold bN at hd;rw[eget] at ho ha hd;have HP:∀ w,Calls Tryd.prog 30 #[.int .u64 c.ws[k]] w fun e w'=>e=.returned (.tuple #[.int .i64 (oo:Nat),.int .i64 (aa:Nat),.int .i64 (dd:Nat)])/\w'=w:=fun w=>by
  have:=rparts_any c.ws[k] w hu.1 hu.2
  rw[<-ho,<-ha,<-hd];rw[Int.toNat_of_nonneg (by show 0<=c.ws[k] / 72057594037927936;omega),Int.toNat_of_nonneg (by show 0<=c.ws[k] / 268435456 % 268435456;omega),Int.toNat_of_nonneg (by show 0<=c.ws[k] % 268435456;omega)];exact this
 generalize c.ws[k]=u at *;rw[hqa] at d0;have hlw:=hC0.lw;have hkI:(k:Int)<(c.ws.length:Int):=by omega
 have hkI2:(k:Int)<(v.tb.length:Int):=by omega
 have HG:=Lib.hid hg;have HGL:=Lib.hid hgl;have HN:=Lib.hid hn;have hcw:=hC0;clear hn hg ho1 hgc hgd eget ho ha hd hws hC0 hdn;subst h0;have e00:((0:Nat):Int)=0:=rfl;rw[e00] at HP;have HH:=halts_c w1 o1 vb ls cap p c v s true dn S M1;unfold sV at HH;rw[<-hsb] at HH;have hlk:lookW c 0 aa dd k s v=haltF s v:=rfl;rw[hlk];clear hM M1 S1 hb1 hsb V D B hC Wd S e00 hlk hk hu;go_enter Tryd.func18,Tryd.ntmps18;go_upto_region 1 with fail;rw[<-hw1,<-HG.out];clear hw1;go_wp2_with (first|(go_at_call 30;refine(HP _).mono ?_;rintro e w2 ⟨rfl,rfl⟩)|(go_at_call 31;refine HH.mono ?_;rintro e w2 ⟨rfl,o2,M2,S2⟩))
 go_end0
 exact⟨rfl,o2,M2,S1'.trans S2⟩
theorem looks_a (w:World)(o:Nat->Nat)(vb ls cap:Nat)(p:Pl)(c:Cd)(v:Vw)(n k oo aa dd:Nat)(s:St)(hr:rgtB c=true)(V:VwOk n v)(D:VwD v)(B:VwB v)(hn:n=c.ws.length)(hn2:n<=32768)(hk:v.tb[k]?=some (some s))(ho:opN c k=oo)(ha:aN c k=aa)(hd:bN c k=dd)(Wd:WdR c oo aa dd)(hC:∀ w' o',Step I2q w o w' o'->CdW w' p c)(hM:WkM w o vb ls cap p c (0,v))(hop:oo≠0)(hF:fitE oo aa s.2=false) :
  Calls Tryd.prog 18 #[.pointer (some ⟨vb,0,none⟩),.int .i64 (k:Nat)] w (PostQ w o vb ls cap p c (lookW c oo aa dd k s v)):=by
 have S:=V.sts k s hk;have hkl:k<v.tb.length:=(List.getElem?_eq_some_iff.1 hk).1;have hkn:k<n:=by rw[<-V.tl];exact hkl
 have hkw:k<c.ws.length:=by rw[<-hn];exact hkn
 have hC0:=hC w o (Step.refl _ _ _);obtain⟨sb,hsb⟩:∃sb,sb=bs s.1:=⟨_,rfl⟩
 obtain⟨g,hg⟩:∃g,g=w.heap.size:=⟨_,rfl⟩
 obtain⟨dn,hdn⟩:∃dn,dn=v.dn.getD k false:=⟨_,rfl⟩
 obtain⟨w1,hw1⟩:∃w1,w1=w.alloc (.cells #[.string sb,.int .i64 (s.2:Nat),.bool true,.bool dn] 51):=⟨_,rfl⟩
 obtain⟨o1,ho1⟩:∃o1,o1=newLab w o 0:=⟨_,rfl⟩
 have S1:Step (fun _=>False) w o w1 o1:=by rw[hw1,ho1];exact new_q o _
 have S1':Step I2q w o w1 o1:=S1.mono (fun _ h=>h.elim);have M1:=hM.step S1 id id;have hb1:w1.heap[g]?=some (.cells #[.string sb,.int .i64 (s.2:Nat),.bool true,.bool dn] 51 (0,0)):=by rw[hw1,hg];exact h1G w _
 have hgl:g<w1.heap.size:=lt_of_block hb1
 -- the state's cells
 obtain⟨gs',cs',hgs,-,-,-,-,hgc,-⟩:=hM.rs.pos (by show 0<v.tb.length;omega);simp only[Value.slice.injEq,Option.some.injEq,Addr.mk.injEq,and_true,true_and] at hgs;obtain⟨rfl,rfl⟩:=hgs;have hgd:v.tb.getD k none=some s:=by rw[List.getD_eq_getElem?_getD,hk];rfl
 have l0:=(hgc (k*4+0) (by simp only;omega)).trans (stL_at v hkl (by decide:0<4));have l1:=(hgc (k*4+1) (by simp only;omega)).trans (stL_at v hkl (by decide:1<4));have l2:=(hgc (k*4+2) (by simp only;omega)).trans (stL_at v hkl (by decide:2<4));have l3:=(hgc (k*4+3) (by simp only;omega)).trans (stL_at v hkl (by decide:3<4));rw[Nat.add_zero] at l0;rw[hgd,<-hdn] at l0 l1 l2 l3;simp only[q4,List.getElem?_cons_zero,List.getElem?_cons_succ] at l0 l1 l2 l3;rw[<-hsb] at l0;obtain⟨⟨-,-,-,-,a4,-,-,-,-⟩,-⟩:=cells9q hM.blk.1;obtain⟨⟨d0,d1,d2,d3,-,-,-,-,d8⟩,df⟩:=cells9q M1.blk.1;simp only at a4 d8;obtain⟨e0,e1,e2,e3⟩:=box4_cells hb1
 -- the word
 have hws:=(hC w1 o1 S1').ws;obtain⟨qb,qo,hqa,hql,hqc⟩:=hws.at (wsV_at hkw);have hu:=hC0.ok.ws _ (List.getElem_mem hkw);have eget:c.ws.getD k 0=c.ws[k]:=by simp[List.getD_eq_getElem?_getD,List.getElem?_eq_getElem hkw]
 unfold opN at ho;unfold aN at ha;unfold bN at hd;rw[eget] at ho ha hd;have HP:∀ w,Calls Tryd.prog 30 #[.int .u64 c.ws[k]] w fun e w'=>e=.returned (.tuple #[.int .i64 (oo:Nat),.int .i64 (aa:Nat),.int .i64 (dd:Nat)])/\w'=w:=fun w=>by
  have:=rparts_any c.ws[k] w hu.1 hu.2
  rw[<-ho,<-ha,<-hd];rw[Int.toNat_of_nonneg (by show 0<=c.ws[k] / 72057594037927936;omega),Int.toNat_of_nonneg (by show 0<=c.ws[k] / 268435456 % 268435456;omega),Int.toNat_of_nonneg (by show 0<=c.ws[k] % 268435456;omega)];exact this
 generalize c.ws[k]=u at *;rw[hqa] at d0;have hlw:=hC0.lw;have hkI:(k:Int)<(c.ws.length:Int):=by omega
 have hkI2:(k:Int)<(v.tb.length:Int):=by omega
 have HG:=Lib.hid hg;have HGL:=Lib.hid hgl;have HN:=Lib.hid hn;have hcw:=hC0;clear hn hg ho1 hgc hgd eget ho ha hd hws hC0 hdn;have h0I:¬(oo:Int)=0:=by omega
 have h0b:((oo:Int)==0)=false:=beq_eq_false_iff_ne.2 h0I;have HWc:Calls Tryd.prog 32 #[cdV p c,sV s.1 s.2 true dn,.int .i64 (oo:Nat),.int .i64 (aa:Nat),.int .i64 (dd:Nat)] w1.drew (PostWd w1.drew (effE c oo aa dd).1 (effE c oo aa dd).2 (moreI oo) (fitE oo aa s.2)):=wordq_c w1.drew p c s true dn oo aa dd (hC _ _ (S1'.trans ((Step.refl I2q w1 o1).drew))) hr Wd S hop;unfold sV PostWd wrdV at HWc;simp only[cdV,cdA,hqa] at HWc;rw[<-hsb] at HWc;have hPl:=eff_len Wd;have hQl:=eff_plen Wd;have hPb:∀ k ∈ (effE c oo aa dd).1,k<256:=fun k hk=>by have:=eff_pop hr Wd k hk;omega
 have HX:Hid (∀ w2,Below w1.drew.heap.size w1.drew w2->((w2.cell? ⟨g,0,none⟩=some (.string sb)/\w2.cell? ⟨g,1,none⟩=some (.int .i64 (s.2:Nat))/\w2.cell? ⟨g,2,none⟩=some (.bool true)/\w2.cell? ⟨g,3,none⟩=some (.bool dn))/\(w2.cell? ⟨vb,0,none⟩=some (.slice (some ⟨qb,qo,none⟩) c.ws.length p.cw)/\w2.cell? ⟨vb,1,none⟩=some (.slice p.ac c.cs.length p.cc)/\w2.cell? ⟨vb,2,none⟩=some (.slice p.an c.ns.length p.cn)/\w2.cell? ⟨vb,3,none⟩=some (.slice p.ak c.ks.length p.ck)/\w2.cell? ⟨vb,8,none⟩=some (.int .i64 (0:Nat)))/\∀ j,w2.frozen? ⟨vb,j,none⟩=false)/\WkM w2 o1 vb ls cap p c (0,v)/\Step I2q w o w2 o1):=fun w2 B2=>by
  have B2':Below w1.heap.size w1 w2:=((Below.refl _ w1).drew).trans B2;have M2:=M1.step (Step.ofBelow (I:=fun _=>False) o1 B2') id id;obtain⟨⟨z0,z1,z2,z3,-,-,-,-,z8⟩,zf⟩:=cells9q M2.blk.1;rw[hqa] at z0;exact⟨⟨box4_cells ((B2'.block g hgl).trans hb1),⟨z0,z1,z2,z3,z8⟩,zf⟩,M2,S1'.trans (Step.ofBelow (I:=I2q) o1 B2')⟩
 obtain⟨⟨⟨y0,y1,y2,y3⟩,⟨x0,x1,x2,x3,x8⟩,xf⟩,-,-⟩:=HX.out w1.drew (Below.refl _ _);have hssz:sb.size=s.1.length:=by rw[hsb,bs_size]
 have hSl:=S.len;obtain⟨P,hP'⟩:∃P,P=(effE c oo aa dd).1:=⟨_,rfl⟩
 obtain⟨Q,hQ'⟩:∃Q,Q=(effE c oo aa dd).2:=⟨_,rfl⟩
 rw[<-hP'] at hPl hPb HWc;rw[<-hQ'] at hQl HWc;obtain⟨pb,hpb⟩:∃pb,pb=bs P:=⟨_,rfl⟩
 obtain⟨qbs,hqb⟩:∃qb,qb=bs Q:=⟨_,rfl⟩
 rw[<-hpb,<-hqb] at HWc;have hpsz:pb.size=P.length:=by rw[hpb,bs_size]
 have hqsz:qbs.size=Q.length:=by rw[hqb,bs_size]
 have hL:lookW c oo aa dd k s v=(201,v):=by
  unfold lookW passF;rw[if_neg hop,hF];rfl
 rw[hL];rw[hF] at HWc;have hSz:(sb.size:Int)<=1024:=by omega
 have hPz:(pb.size:Int)<=1024:=by omega
 clear hM M1 S1 hb1 hsb V D B hC Wd S hk hu hgl xf hP' hQ' hpb hqb hPb hr hop S1' hcw hL hssz hpsz hqsz;go_enter Tryd.func18,Tryd.ntmps18;go_upto_region 1 with fail;rw[<-hw1,<-HG.out];clear hw1;go_upto_region 4 with (first|(go_at_call 30;refine(HP _).mono ?_;rintro e w2 ⟨rfl,rfl⟩))
 go_region_held (fun wx=>(wx.cell? ⟨g,0,none⟩=some (.string sb)/\wx.cell? ⟨g,1,none⟩=some (.int .i64 (s.2:Nat))/\wx.cell? ⟨g,2,none⟩=some (.bool true)/\wx.cell? ⟨g,3,none⟩=some (.bool dn))/\wx.cell? ⟨vb,0,none⟩=some (.slice (some ⟨qb,qo,none⟩) c.ws.length p.cw)/\wx.cell? ⟨vb,1,none⟩=some (.slice p.ac c.cs.length p.cc)/\wx.cell? ⟨vb,2,none⟩=some (.slice p.an c.ns.length p.cn)/\wx.cell? ⟨vb,3,none⟩=some (.slice p.ak c.ks.length p.ck)) (go_keep) ((go_at_call 32;refine HWc.mono ?_;rintro e w2 ⟨rfl,B2⟩;obtain⟨⟨⟨y0,y1,y2,y3⟩,⟨x0,x1,x2,x3,x8⟩,xf⟩,M2,S2⟩:=HX.out w2 B2));clear HX HWc;have xf8:=xf 8;obtain⟨z1,z2⟩:=set_e M2 201;have HZ:=Lib.hid (And.intro z1 (S2.trans z2));clear z1 z2 M2 S2 xf;go_wp2
 go_end0
 exact⟨rfl,o1,HZ.out⟩
theorem looks_b (w:World)(o:Nat->Nat)(vb ls cap:Nat)(p:Pl)(c:Cd)(v:Vw)(n k oo aa dd:Nat)(s:St)(hr:rgtB c=true)(V:VwOk n v)(D:VwD v)(B:VwB v)(hn:n=c.ws.length)(hn2:n<=32768)(hk:v.tb[k]?=some (some s))(ho:opN c k=oo)(ha:aN c k=aa)(hd:bN c k=dd)(Wd:WdR c oo aa dd)(hC:∀ w' o',Step I2q w o w' o'->CdW w' p c)(hM:WkM w o vb ls cap p c (0,v))(hop:oo≠0)(hF:fitE oo aa s.2=true)(hlt:s.1.length<(effE c oo aa dd).1.length) :
  Calls Tryd.prog 18 #[.pointer (some ⟨vb,0,none⟩),.int .i64 (k:Nat)] w (PostQ w o vb ls cap p c (lookW c oo aa dd k s v)):=by
 have S:=V.sts k s hk;have hkl:k<v.tb.length:=(List.getElem?_eq_some_iff.1 hk).1;have hkn:k<n:=by rw[<-V.tl];exact hkl
 have hkw:k<c.ws.length:=by rw[<-hn];exact hkn
 have hC0:=hC w o (Step.refl _ _ _);obtain⟨sb,hsb⟩:∃sb,sb=bs s.1:=⟨_,rfl⟩
 obtain⟨g,hg⟩:∃g,g=w.heap.size:=⟨_,rfl⟩
 obtain⟨dn,hdn⟩:∃dn,dn=v.dn.getD k false:=⟨_,rfl⟩
 obtain⟨w1,hw1⟩:∃w1,w1=w.alloc (.cells #[.string sb,.int .i64 (s.2:Nat),.bool true,.bool dn] 51):=⟨_,rfl⟩
 obtain⟨o1,ho1⟩:∃o1,o1=newLab w o 0:=⟨_,rfl⟩
 have S1:Step (fun _=>False) w o w1 o1:=by rw[hw1,ho1];exact new_q o _
 have S1':Step I2q w o w1 o1:=S1.mono (fun _ h=>h.elim);have M1:=hM.step S1 id id;have hb1:w1.heap[g]?=some (.cells #[.string sb,.int .i64 (s.2:Nat),.bool true,.bool dn] 51 (0,0)):=by rw[hw1,hg];exact h1G w _
 have hgl:g<w1.heap.size:=lt_of_block hb1
 -- the state's cells
 obtain⟨gs',cs',hgs,-,-,-,-,hgc,-⟩:=hM.rs.pos (by show 0<v.tb.length;omega);simp only[Value.slice.injEq,Option.some.injEq,Addr.mk.injEq,and_true,true_and] at hgs;obtain⟨rfl,rfl⟩:=hgs;have hgd:v.tb.getD k none=some s:=by rw[List.getD_eq_getElem?_getD,hk];rfl
 have l0:=(hgc (k*4+0) (by simp only;omega)).trans (stL_at v hkl (by decide:0<4));have l1:=(hgc (k*4+1) (by simp only;omega)).trans (stL_at v hkl (by decide:1<4));have l2:=(hgc (k*4+2) (by simp only;omega)).trans (stL_at v hkl (by decide:2<4));have l3:=(hgc (k*4+3) (by simp only;omega)).trans (stL_at v hkl (by decide:3<4));rw[Nat.add_zero] at l0;rw[hgd,<-hdn] at l0 l1 l2 l3;simp only[q4,List.getElem?_cons_zero,List.getElem?_cons_succ] at l0 l1 l2 l3;rw[<-hsb] at l0;obtain⟨⟨-,-,-,-,a4,-,-,-,-⟩,-⟩:=cells9q hM.blk.1;obtain⟨⟨d0,d1,d2,d3,-,-,-,-,d8⟩,df⟩:=cells9q M1.blk.1;simp only at a4 d8;obtain⟨e0,e1,e2,e3⟩:=box4_cells hb1
 -- the word
 have hws:=(hC w1 o1 S1').ws;obtain⟨qb,qo,hqa,hql,hqc⟩:=hws.at (wsV_at hkw);have hu:=hC0.ok.ws _ (List.getElem_mem hkw);have eget:c.ws.getD k 0=c.ws[k]:=by simp[List.getD_eq_getElem?_getD,List.getElem?_eq_getElem hkw]
 unfold opN at ho;unfold aN at ha;unfold bN at hd;rw[eget] at ho ha hd;have HP:∀ w,Calls Tryd.prog 30 #[.int .u64 c.ws[k]] w fun e w'=>e=.returned (.tuple #[.int .i64 (oo:Nat),.int .i64 (aa:Nat),.int .i64 (dd:Nat)])/\w'=w:=fun w=>by
  have:=rparts_any c.ws[k] w hu.1 hu.2
  rw[<-ho,<-ha,<-hd];rw[Int.toNat_of_nonneg (by show 0<=c.ws[k] / 72057594037927936;omega),Int.toNat_of_nonneg (by show 0<=c.ws[k] / 268435456 % 268435456;omega),Int.toNat_of_nonneg (by show 0<=c.ws[k] % 268435456;omega)];exact this
 generalize c.ws[k]=u at *;rw[hqa] at d0;have hlw:=hC0.lw;have hkI:(k:Int)<(c.ws.length:Int):=by omega
 have hkI2:(k:Int)<(v.tb.length:Int):=by omega
 have HG:=Lib.hid hg;have HGL:=Lib.hid hgl;have HN:=Lib.hid hn;have hcw:=hC0;clear hn hg ho1 hgc hgd eget ho ha hd hws hC0 hdn;have h0I:¬(oo:Int)=0:=by omega
 have h0b:((oo:Int)==0)=false:=beq_eq_false_iff_ne.2 h0I;have HWc:Calls Tryd.prog 32 #[cdV p c,sV s.1 s.2 true dn,.int .i64 (oo:Nat),.int .i64 (aa:Nat),.int .i64 (dd:Nat)] w1.drew (PostWd w1.drew (effE c oo aa dd).1 (effE c oo aa dd).2 (moreI oo) (fitE oo aa s.2)):=wordq_c w1.drew p c s true dn oo aa dd (hC _ _ (S1'.trans ((Step.refl I2q w1 o1).drew))) hr Wd S hop;unfold sV PostWd wrdV at HWc;simp only[cdV,cdA,hqa] at HWc;rw[<-hsb] at HWc;have hPl:=eff_len Wd;have hQl:=eff_plen Wd;have hPb:∀ k ∈ (effE c oo aa dd).1,k<256:=fun k hk=>by have:=eff_pop hr Wd k hk;omega
 have HX:Hid (∀ w2,Below w1.drew.heap.size w1.drew w2->((w2.cell? ⟨g,0,none⟩=some (.string sb)/\w2.cell? ⟨g,1,none⟩=some (.int .i64 (s.2:Nat))/\w2.cell? ⟨g,2,none⟩=some (.bool true)/\w2.cell? ⟨g,3,none⟩=some (.bool dn))/\(w2.cell? ⟨vb,0,none⟩=some (.slice (some ⟨qb,qo,none⟩) c.ws.length p.cw)/\w2.cell? ⟨vb,1,none⟩=some (.slice p.ac c.cs.length p.cc)/\w2.cell? ⟨vb,2,none⟩=some (.slice p.an c.ns.length p.cn)/\w2.cell? ⟨vb,3,none⟩=some (.slice p.ak c.ks.length p.ck)/\w2.cell? ⟨vb,8,none⟩=some (.int .i64 (0:Nat)))/\∀ j,w2.frozen? ⟨vb,j,none⟩=false)/\WkM w2 o1 vb ls cap p c (0,v)/\Step I2q w o w2 o1):=fun w2 B2=>by
  have B2':Below w1.heap.size w1 w2:=((Below.refl _ w1).drew).trans B2;have M2:=M1.step (Step.ofBelow (I:=fun _=>False) o1 B2') id id;obtain⟨⟨z0,z1,z2,z3,-,-,-,-,z8⟩,zf⟩:=cells9q M2.blk.1;rw[hqa] at z0;exact⟨⟨box4_cells ((B2'.block g hgl).trans hb1),⟨z0,z1,z2,z3,z8⟩,zf⟩,M2,S1'.trans (Step.ofBelow (I:=I2q) o1 B2')⟩
 obtain⟨⟨⟨y0,y1,y2,y3⟩,⟨x0,x1,x2,x3,x8⟩,xf⟩,-,-⟩:=HX.out w1.drew (Below.refl _ _);have hssz:sb.size=s.1.length:=by rw[hsb,bs_size]
 have hSl:=S.len;obtain⟨P,hP'⟩:∃P,P=(effE c oo aa dd).1:=⟨_,rfl⟩
 obtain⟨Q,hQ'⟩:∃Q,Q=(effE c oo aa dd).2:=⟨_,rfl⟩
 rw[<-hP'] at hPl hPb HWc;rw[<-hQ'] at hQl HWc;obtain⟨pb,hpb⟩:∃pb,pb=bs P:=⟨_,rfl⟩
 obtain⟨qbs,hqb⟩:∃qb,qb=bs Q:=⟨_,rfl⟩
 rw[<-hpb,<-hqb] at HWc;have hpsz:pb.size=P.length:=by rw[hpb,bs_size]
 have hqsz:qbs.size=Q.length:=by rw[hqb,bs_size]
 rw[<-hP'] at hlt;have hL:lookW c oo aa dd k s v=(201,v):=by
  unfold lookW passF;rw[if_neg hop,hF,if_pos rfl,<-hP'];rw[if_neg (fun x=>by have:=congrArg List.length x;rw[List.length_drop] at this;omega)]
  have:¬(oo=18/\s.1≠[]):=fun ⟨h1,h2⟩=>by
   subst h1
   have:=eff18 c 18 aa dd rfl
   rw[<-hP'] at this;have h3:s.1.length=0:=by omega
   exact h2 (List.eq_nil_of_length_eq_zero h3)
  rw[if_neg this]
 rw[hL];rw[hF] at HWc;have hnI:(sb.size:Int)-(pb.size:Int)<0:=by omega
 have hnI2:(sb.size:Int)<(pb.size:Int):=by omega
 have hSz:(sb.size:Int)<=1024:=by omega
 have hPz:(pb.size:Int)<=1024:=by omega
 clear hM M1 S1 hb1 hsb V D B hC Wd S hk hu hgl xf hP' hQ' hpb hqb hPb hr hop S1' hcw hL hssz hpsz hqsz;go_enter Tryd.func18,Tryd.ntmps18;go_upto_region 1 with fail;rw[<-hw1,<-HG.out];clear hw1;go_upto_region 4 with (first|(go_at_call 30;refine(HP _).mono ?_;rintro e w2 ⟨rfl,rfl⟩))
 go_region_held (fun wx=>(wx.cell? ⟨g,0,none⟩=some (.string sb)/\wx.cell? ⟨g,1,none⟩=some (.int .i64 (s.2:Nat))/\wx.cell? ⟨g,2,none⟩=some (.bool true)/\wx.cell? ⟨g,3,none⟩=some (.bool dn))/\wx.cell? ⟨vb,0,none⟩=some (.slice (some ⟨qb,qo,none⟩) c.ws.length p.cw)/\wx.cell? ⟨vb,1,none⟩=some (.slice p.ac c.cs.length p.cc)/\wx.cell? ⟨vb,2,none⟩=some (.slice p.an c.ns.length p.cn)/\wx.cell? ⟨vb,3,none⟩=some (.slice p.ak c.ks.length p.ck)) (go_keep) ((go_at_call 32;refine HWc.mono ?_;rintro e w2 ⟨rfl,B2⟩;obtain⟨⟨⟨y0,y1,y2,y3⟩,⟨x0,x1,x2,x3,x8⟩,xf⟩,M2,S2⟩:=HX.out w2 B2));clear HX HWc;have xf8:=xf 8;obtain⟨z1,z2⟩:=set_e M2 201;have HZ:=Lib.hid (And.intro z1 (S2.trans z2));clear z1 z2 M2 S2 xf;go_wp2
 go_end0
 exact⟨rfl,o1,HZ.out⟩
theorem looks_c18 (w:World)(o:Nat->Nat)(vb ls cap:Nat)(p:Pl)(c:Cd)(v:Vw)(n k oo aa dd:Nat)(s:St)(hr:rgtB c=true)(V:VwOk n v)(D:VwD v)(B:VwB v)(hn:n=c.ws.length)(hn2:n<=32768)(hk:v.tb[k]?=some (some s))(ho:opN c k=oo)(ha:aN c k=aa)(hd:bN c k=dd)(Wd:WdR c oo aa dd)(hC:∀ w' o',Step I2q w o w' o'->CdW w' p c)(hM:WkM w o vb ls cap p c (0,v))(hop:oo≠0)(hF:fitE oo aa s.2=true)(hge:¬s.1.length<(effE c oo aa dd).1.length)(hne:¬s.1.drop (s.1.length-(effE c oo aa dd).1.length)=(effE c oo aa dd).1)(h18:oo=18) :
  Calls Tryd.prog 18 #[.pointer (some ⟨vb,0,none⟩),.int .i64 (k:Nat)] w (PostQ w o vb ls cap p c (lookW c oo aa dd k s v)):=by
 have S:=V.sts k s hk;have hkl:k<v.tb.length:=(List.getElem?_eq_some_iff.1 hk).1;have hkn:k<n:=by rw[<-V.tl];exact hkl
 have hkw:k<c.ws.length:=by rw[<-hn];exact hkn
 have hC0:=hC w o (Step.refl _ _ _);obtain⟨sb,hsb⟩:∃sb,sb=bs s.1:=⟨_,rfl⟩
 obtain⟨g,hg⟩:∃g,g=w.heap.size:=⟨_,rfl⟩
 obtain⟨dn,hdn⟩:∃dn,dn=v.dn.getD k false:=⟨_,rfl⟩
 obtain⟨w1,hw1⟩:∃w1,w1=w.alloc (.cells #[.string sb,.int .i64 (s.2:Nat),.bool true,.bool dn] 51):=⟨_,rfl⟩
 obtain⟨o1,ho1⟩:∃o1,o1=newLab w o 0:=⟨_,rfl⟩
 have S1:Step (fun _=>False) w o w1 o1:=by rw[hw1,ho1];exact new_q o _
 have S1':Step I2q w o w1 o1:=S1.mono (fun _ h=>h.elim);have M1:=hM.step S1 id id;have hb1:w1.heap[g]?=some (.cells #[.string sb,.int .i64 (s.2:Nat),.bool true,.bool dn] 51 (0,0)):=by rw[hw1,hg];exact h1G w _
 have hgl:g<w1.heap.size:=lt_of_block hb1
 -- the state's cells
 obtain⟨gs',cs',hgs,-,-,-,-,hgc,-⟩:=hM.rs.pos (by show 0<v.tb.length;omega);simp only[Value.slice.injEq,Option.some.injEq,Addr.mk.injEq,and_true,true_and] at hgs;obtain⟨rfl,rfl⟩:=hgs;have hgd:v.tb.getD k none=some s:=by rw[List.getD_eq_getElem?_getD,hk];rfl
 have l0:=(hgc (k*4+0) (by simp only;omega)).trans (stL_at v hkl (by decide:0<4));have l1:=(hgc (k*4+1) (by simp only;omega)).trans (stL_at v hkl (by decide:1<4));have l2:=(hgc (k*4+2) (by simp only;omega)).trans (stL_at v hkl (by decide:2<4));have l3:=(hgc (k*4+3) (by simp only;omega)).trans (stL_at v hkl (by decide:3<4));rw[Nat.add_zero] at l0;rw[hgd,<-hdn] at l0 l1 l2 l3;simp only[q4,List.getElem?_cons_zero,List.getElem?_cons_succ] at l0 l1 l2 l3;rw[<-hsb] at l0;obtain⟨⟨-,-,-,-,a4,-,-,-,-⟩,-⟩:=cells9q hM.blk.1;obtain⟨⟨d0,d1,d2,d3,-,-,-,-,d8⟩,df⟩:=cells9q M1.blk.1;simp only at a4 d8;obtain⟨e0,e1,e2,e3⟩:=box4_cells hb1
 -- the word
 have hws:=(hC w1 o1 S1').ws;obtain⟨qb,qo,hqa,hql,hqc⟩:=hws.at (wsV_at hkw);have hu:=hC0.ok.ws _ (List.getElem_mem hkw);have eget:c.ws.getD k 0=c.ws[k]:=by simp[List.getD_eq_getElem?_getD,List.getElem?_eq_getElem hkw]
 unfold opN at ho;unfold aN at ha;unfold bN at hd;rw[eget] at ho ha hd;have HP:∀ w,Calls Tryd.prog 30 #[.int .u64 c.ws[k]] w fun e w'=>e=.returned (.tuple #[.int .i64 (oo:Nat),.int .i64 (aa:Nat),.int .i64 (dd:Nat)])/\w'=w:=fun w=>by
  have:=rparts_any c.ws[k] w hu.1 hu.2
  rw[<-ho,<-ha,<-hd];rw[Int.toNat_of_nonneg (by show 0<=c.ws[k] / 72057594037927936;omega),Int.toNat_of_nonneg (by show 0<=c.ws[k] / 268435456 % 268435456;omega),Int.toNat_of_nonneg (by show 0<=c.ws[k] % 268435456;omega)];exact this
 generalize c.ws[k]=u at *;rw[hqa] at d0;have hlw:=hC0.lw;have hkI:(k:Int)<(c.ws.length:Int):=by omega
 have hkI2:(k:Int)<(v.tb.length:Int):=by omega
 have HG:=Lib.hid hg;have HGL:=Lib.hid hgl;have HN:=Lib.hid hn;have hcw:=hC0;clear hn hg ho1 hgc hgd eget ho ha hd hws hC0 hdn;have h0I:¬(oo:Int)=0:=by omega
 have h0b:((oo:Int)==0)=false:=beq_eq_false_iff_ne.2 h0I;have HWc:Calls Tryd.prog 32 #[cdV p c,sV s.1 s.2 true dn,.int .i64 (oo:Nat),.int .i64 (aa:Nat),.int .i64 (dd:Nat)] w1.drew (PostWd w1.drew (effE c oo aa dd).1 (effE c oo aa dd).2 (moreI oo) (fitE oo aa s.2)):=wordq_c w1.drew p c s true dn oo aa dd (hC _ _ (S1'.trans ((Step.refl I2q w1 o1).drew))) hr Wd S hop;unfold sV PostWd wrdV at HWc;simp only[cdV,cdA,hqa] at HWc;rw[<-hsb] at HWc;have hPl:=eff_len Wd;have hQl:=eff_plen Wd;have hPb:∀ k ∈ (effE c oo aa dd).1,k<256:=fun k hk=>by have:=eff_pop hr Wd k hk;omega
 have HX:Hid (∀ w2,Below w1.drew.heap.size w1.drew w2->((w2.cell? ⟨g,0,none⟩=some (.string sb)/\w2.cell? ⟨g,1,none⟩=some (.int .i64 (s.2:Nat))/\w2.cell? ⟨g,2,none⟩=some (.bool true)/\w2.cell? ⟨g,3,none⟩=some (.bool dn))/\(w2.cell? ⟨vb,0,none⟩=some (.slice (some ⟨qb,qo,none⟩) c.ws.length p.cw)/\w2.cell? ⟨vb,1,none⟩=some (.slice p.ac c.cs.length p.cc)/\w2.cell? ⟨vb,2,none⟩=some (.slice p.an c.ns.length p.cn)/\w2.cell? ⟨vb,3,none⟩=some (.slice p.ak c.ks.length p.ck)/\w2.cell? ⟨vb,8,none⟩=some (.int .i64 (0:Nat)))/\∀ j,w2.frozen? ⟨vb,j,none⟩=false)/\WkM w2 o1 vb ls cap p c (0,v)/\Step I2q w o w2 o1):=fun w2 B2=>by
  have B2':Below w1.heap.size w1 w2:=((Below.refl _ w1).drew).trans B2;have M2:=M1.step (Step.ofBelow (I:=fun _=>False) o1 B2') id id;obtain⟨⟨z0,z1,z2,z3,-,-,-,-,z8⟩,zf⟩:=cells9q M2.blk.1;rw[hqa] at z0;exact⟨⟨box4_cells ((B2'.block g hgl).trans hb1),⟨z0,z1,z2,z3,z8⟩,zf⟩,M2,S1'.trans (Step.ofBelow (I:=I2q) o1 B2')⟩
 obtain⟨⟨⟨y0,y1,y2,y3⟩,⟨x0,x1,x2,x3,x8⟩,xf⟩,-,-⟩:=HX.out w1.drew (Below.refl _ _);have hssz:sb.size=s.1.length:=by rw[hsb,bs_size]
 have hSl:=S.len;obtain⟨P,hP'⟩:∃P,P=(effE c oo aa dd).1:=⟨_,rfl⟩
 obtain⟨Q,hQ'⟩:∃Q,Q=(effE c oo aa dd).2:=⟨_,rfl⟩
 rw[<-hP'] at hPl hPb HWc;rw[<-hQ'] at hQl HWc;obtain⟨pb,hpb⟩:∃pb,pb=bs P:=⟨_,rfl⟩
 obtain⟨qbs,hqb⟩:∃qb,qb=bs Q:=⟨_,rfl⟩
 rw[<-hpb,<-hqb] at HWc;have hpsz:pb.size=P.length:=by rw[hpb,bs_size]
 have hqsz:qbs.size=Q.length:=by rw[hqb,bs_size]
 rw[<-hP'] at hge;obtain⟨nn,hnn'⟩:∃nn,nn=s.1.length-P.length:=⟨_,rfl⟩
 have hnn:(sb.size:Int)-(pb.size:Int)=(nn:Int):=by omega
 have hnl:(nn:Int)<=(sb.size:Int):=by omega
 have hn0:¬(nn:Int)<0:=by omega
 have hn00:(0:Int)<=(nn:Int):=by omega
 obtain⟨db,hdb⟩:∃db,db=sb.extract nn sb.size:=⟨_,rfl⟩
 have hdb2:db=bs (s.1.drop nn):=by
  rw[hdb,hssz,hsb];exact bs_drop _ _
 have hdby:∀ k ∈ s.1.drop nn,k<256:=fun k hk=>S.by k (List.mem_of_mem_drop hk)
 rw[<-hP'] at hne;have hdne:¬db=pb:=fun e=>hne (by
  rw[<-hnn'];exact(bs_inj hdby hPb).1 (by rw[<-hdb2,<-hpb];exact e))
 have hdne2:=ne_list hdne;have hdne3:(db.toList==pb.toList)=false:=beq_eq_false_iff_ne.2 hdne2;have hL:lookW c oo aa dd k s v=(203,v):=by
  unfold lookW passF;rw[if_neg hop,hF,if_pos rfl,<-hP',if_neg hne];subst h18;have hp1:P.length=1:=by rw[hP'];rfl
  rw[if_pos ⟨rfl,fun e=>by rw[e] at hge;simp at hge;rw[hge] at hp1;simp at hp1⟩]
 rw[hL];rw[hF] at HWc;have h18I:(oo:Int)=18:=by omega
 have HDB:Hid True:=trivial;have hdb':=hdb.symm;have hSz:(sb.size:Int)<=1024:=by omega
 have hPz:(pb.size:Int)<=1024:=by omega
 clear hM M1 S1 hb1 hsb V D B hC Wd S hk hu hgl xf hP' hQ' hpb hqb hPb hr hop S1' hcw hL hge hne hdne hssz hpsz hqsz hnn' hdb hdb2 hdby hPl hQl;subst h18;have e18:((18:Nat):Int)=18:=rfl;rw[e18] at HP HWc;clear h18I e18 h0I h0b;go_enter Tryd.func18,Tryd.ntmps18;go_upto_region 1 with fail;rw[<-hw1,<-HG.out];clear hw1;go_upto_region 4 with (first|(go_at_call 30;refine(HP _).mono ?_;rintro e w2 ⟨rfl,rfl⟩))
 go_region_held (fun wx=>(wx.cell? ⟨g,0,none⟩=some (.string sb)/\wx.cell? ⟨g,1,none⟩=some (.int .i64 (s.2:Nat))/\wx.cell? ⟨g,2,none⟩=some (.bool true)/\wx.cell? ⟨g,3,none⟩=some (.bool dn))/\wx.cell? ⟨vb,0,none⟩=some (.slice (some ⟨qb,qo,none⟩) c.ws.length p.cw)/\wx.cell? ⟨vb,1,none⟩=some (.slice p.ac c.cs.length p.cc)/\wx.cell? ⟨vb,2,none⟩=some (.slice p.an c.ns.length p.cn)/\wx.cell? ⟨vb,3,none⟩=some (.slice p.ak c.ks.length p.ck)) (go_keep) ((go_at_call 32;refine HWc.mono ?_;rintro e w2 ⟨rfl,B2⟩;obtain⟨⟨⟨y0,y1,y2,y3⟩,⟨x0,x1,x2,x3,x8⟩,xf⟩,M2,S2⟩:=HX.out w2 B2));clear HX HWc;have xf8:=xf 8;obtain⟨z1,z2⟩:=set_e M2 201;obtain⟨z3,z4⟩:=set_e z1 203;have HZ:=Lib.hid (And.intro z3 ((S2.trans z2).trans z4));clear z1 z2 z3 z4 M2 S2 xf;go_wp2
 go_end0
 exact⟨rfl,o1,HZ.out⟩
theorem looks_c' (w:World)(o:Nat->Nat)(vb ls cap:Nat)(p:Pl)(c:Cd)(v:Vw)(n k oo aa dd:Nat)(s:St)(hr:rgtB c=true)(V:VwOk n v)(D:VwD v)(B:VwB v)(hn:n=c.ws.length)(hn2:n<=32768)(hk:v.tb[k]?=some (some s))(ho:opN c k=oo)(ha:aN c k=aa)(hd:bN c k=dd)(Wd:WdR c oo aa dd)(hC:∀ w' o',Step I2q w o w' o'->CdW w' p c)(hM:WkM w o vb ls cap p c (0,v))(hop:oo≠0)(hF:fitE oo aa s.2=true)(hge:¬s.1.length<(effE c oo aa dd).1.length)(hne:¬s.1.drop (s.1.length-(effE c oo aa dd).1.length)=(effE c oo aa dd).1)(h18:oo≠18) :
  Calls Tryd.prog 18 #[.pointer (some ⟨vb,0,none⟩),.int .i64 (k:Nat)] w (PostQ w o vb ls cap p c (lookW c oo aa dd k s v)):=by
 have S:=V.sts k s hk;have hkl:k<v.tb.length:=(List.getElem?_eq_some_iff.1 hk).1;have hkn:k<n:=by rw[<-V.tl];exact hkl
 have hkw:k<c.ws.length:=by rw[<-hn];exact hkn
 have hC0:=hC w o (Step.refl _ _ _);obtain⟨sb,hsb⟩:∃sb,sb=bs s.1:=⟨_,rfl⟩
 obtain⟨g,hg⟩:∃g,g=w.heap.size:=⟨_,rfl⟩
 obtain⟨dn,hdn⟩:∃dn,dn=v.dn.getD k false:=⟨_,rfl⟩
 obtain⟨w1,hw1⟩:∃w1,w1=w.alloc (.cells #[.string sb,.int .i64 (s.2:Nat),.bool true,.bool dn] 51):=⟨_,rfl⟩
 obtain⟨o1,ho1⟩:∃o1,o1=newLab w o 0:=⟨_,rfl⟩
 have S1:Step (fun _=>False) w o w1 o1:=by rw[hw1,ho1];exact new_q o _
 have S1':Step I2q w o w1 o1:=S1.mono (fun _ h=>h.elim);have M1:=hM.step S1 id id;have hb1:w1.heap[g]?=some (.cells #[.string sb,.int .i64 (s.2:Nat),.bool true,.bool dn] 51 (0,0)):=by rw[hw1,hg];exact h1G w _
 have hgl:g<w1.heap.size:=lt_of_block hb1
 -- the state's cells
 obtain⟨gs',cs',hgs,-,-,-,-,hgc,-⟩:=hM.rs.pos (by show 0<v.tb.length;omega);simp only[Value.slice.injEq,Option.some.injEq,Addr.mk.injEq,and_true,true_and] at hgs;obtain⟨rfl,rfl⟩:=hgs;have hgd:v.tb.getD k none=some s:=by rw[List.getD_eq_getElem?_getD,hk];rfl
 have l0:=(hgc (k*4+0) (by simp only;omega)).trans (stL_at v hkl (by decide:0<4));have l1:=(hgc (k*4+1) (by simp only;omega)).trans (stL_at v hkl (by decide:1<4));have l2:=(hgc (k*4+2) (by simp only;omega)).trans (stL_at v hkl (by decide:2<4));have l3:=(hgc (k*4+3) (by simp only;omega)).trans (stL_at v hkl (by decide:3<4));rw[Nat.add_zero] at l0;rw[hgd,<-hdn] at l0 l1 l2 l3;simp only[q4,List.getElem?_cons_zero,List.getElem?_cons_succ] at l0 l1 l2 l3;rw[<-hsb] at l0;obtain⟨⟨-,-,-,-,a4,-,-,-,-⟩,-⟩:=cells9q hM.blk.1;obtain⟨⟨d0,d1,d2,d3,-,-,-,-,d8⟩,df⟩:=cells9q M1.blk.1;simp only at a4 d8;obtain⟨e0,e1,e2,e3⟩:=box4_cells hb1
 -- the word
 have hws:=(hC w1 o1 S1').ws;obtain⟨qb,qo,hqa,hql,hqc⟩:=hws.at (wsV_at hkw);have hu:=hC0.ok.ws _ (List.getElem_mem hkw);have eget:c.ws.getD k 0=c.ws[k]:=by simp[List.getD_eq_getElem?_getD,List.getElem?_eq_getElem hkw]
 unfold opN at ho;unfold aN at ha;unfold bN at hd;rw[eget] at ho ha hd;have HP:∀ w,Calls Tryd.prog 30 #[.int .u64 c.ws[k]] w fun e w'=>e=.returned (.tuple #[.int .i64 (oo:Nat),.int .i64 (aa:Nat),.int .i64 (dd:Nat)])/\w'=w:=fun w=>by
  have:=rparts_any c.ws[k] w hu.1 hu.2
  rw[<-ho,<-ha,<-hd];rw[Int.toNat_of_nonneg (by show 0<=c.ws[k] / 72057594037927936;omega),Int.toNat_of_nonneg (by show 0<=c.ws[k] / 268435456 % 268435456;omega),Int.toNat_of_nonneg (by show 0<=c.ws[k] % 268435456;omega)];exact this
 generalize c.ws[k]=u at *;rw[hqa] at d0;have hlw:=hC0.lw;have hkI:(k:Int)<(c.ws.length:Int):=by omega
 have hkI2:(k:Int)<(v.tb.length:Int):=by omega
 have HG:=Lib.hid hg;have HGL:=Lib.hid hgl;have HN:=Lib.hid hn;have hcw:=hC0;clear hn hg ho1 hgc hgd eget ho ha hd hws hC0 hdn;have h0I:¬(oo:Int)=0:=by omega
 have h0b:((oo:Int)==0)=false:=beq_eq_false_iff_ne.2 h0I;have HWc:Calls Tryd.prog 32 #[cdV p c,sV s.1 s.2 true dn,.int .i64 (oo:Nat),.int .i64 (aa:Nat),.int .i64 (dd:Nat)] w1.drew (PostWd w1.drew (effE c oo aa dd).1 (effE c oo aa dd).2 (moreI oo) (fitE oo aa s.2)):=wordq_c w1.drew p c s true dn oo aa dd (hC _ _ (S1'.trans ((Step.refl I2q w1 o1).drew))) hr Wd S hop;unfold sV PostWd wrdV at HWc;simp only[cdV,cdA,hqa] at HWc;rw[<-hsb] at HWc;have hPl:=eff_len Wd;have hQl:=eff_plen Wd;have hPb:∀ k ∈ (effE c oo aa dd).1,k<256:=fun k hk=>by have:=eff_pop hr Wd k hk;omega
 have HX:Hid (∀ w2,Below w1.drew.heap.size w1.drew w2->((w2.cell? ⟨g,0,none⟩=some (.string sb)/\w2.cell? ⟨g,1,none⟩=some (.int .i64 (s.2:Nat))/\w2.cell? ⟨g,2,none⟩=some (.bool true)/\w2.cell? ⟨g,3,none⟩=some (.bool dn))/\(w2.cell? ⟨vb,0,none⟩=some (.slice (some ⟨qb,qo,none⟩) c.ws.length p.cw)/\w2.cell? ⟨vb,1,none⟩=some (.slice p.ac c.cs.length p.cc)/\w2.cell? ⟨vb,2,none⟩=some (.slice p.an c.ns.length p.cn)/\w2.cell? ⟨vb,3,none⟩=some (.slice p.ak c.ks.length p.ck)/\w2.cell? ⟨vb,8,none⟩=some (.int .i64 (0:Nat)))/\∀ j,w2.frozen? ⟨vb,j,none⟩=false)/\WkM w2 o1 vb ls cap p c (0,v)/\Step I2q w o w2 o1):=fun w2 B2=>by
  have B2':Below w1.heap.size w1 w2:=((Below.refl _ w1).drew).trans B2;have M2:=M1.step (Step.ofBelow (I:=fun _=>False) o1 B2') id id;obtain⟨⟨z0,z1,z2,z3,-,-,-,-,z8⟩,zf⟩:=cells9q M2.blk.1;rw[hqa] at z0;exact⟨⟨box4_cells ((B2'.block g hgl).trans hb1),⟨z0,z1,z2,z3,z8⟩,zf⟩,M2,S1'.trans (Step.ofBelow (I:=I2q) o1 B2')⟩
 obtain⟨⟨⟨y0,y1,y2,y3⟩,⟨x0,x1,x2,x3,x8⟩,xf⟩,-,-⟩:=HX.out w1.drew (Below.refl _ _);have hssz:sb.size=s.1.length:=by rw[hsb,bs_size]
 have hSl:=S.len;obtain⟨P,hP'⟩:∃P,P=(effE c oo aa dd).1:=⟨_,rfl⟩
 obtain⟨Q,hQ'⟩:∃Q,Q=(effE c oo aa dd).2:=⟨_,rfl⟩
 rw[<-hP'] at hPl hPb HWc;rw[<-hQ'] at hQl HWc;obtain⟨pb,hpb⟩:∃pb,pb=bs P:=⟨_,rfl⟩
 obtain⟨qbs,hqb⟩:∃qb,qb=bs Q:=⟨_,rfl⟩
 rw[<-hpb,<-hqb] at HWc;have hpsz:pb.size=P.length:=by rw[hpb,bs_size]
 have hqsz:qbs.size=Q.length:=by rw[hqb,bs_size]
 rw[<-hP'] at hge;obtain⟨nn,hnn'⟩:∃nn,nn=s.1.length-P.length:=⟨_,rfl⟩
 have hnn:(sb.size:Int)-(pb.size:Int)=(nn:Int):=by omega
 have hnl:(nn:Int)<=(sb.size:Int):=by omega
 have hn0:¬(nn:Int)<0:=by omega
 have hn00:(0:Int)<=(nn:Int):=by omega
 obtain⟨db,hdb⟩:∃db,db=sb.extract nn sb.size:=⟨_,rfl⟩
 have hdb2:db=bs (s.1.drop nn):=by
  rw[hdb,hssz,hsb];exact bs_drop _ _
 have hdby:∀ k ∈ s.1.drop nn,k<256:=fun k hk=>S.by k (List.mem_of_mem_drop hk)
 rw[<-hP'] at hne;have hdne:¬db=pb:=fun e=>hne (by
  rw[<-hnn'];exact(bs_inj hdby hPb).1 (by rw[<-hdb2,<-hpb];exact e))
 have hdne2:=ne_list hdne;have hdne3:(db.toList==pb.toList)=false:=beq_eq_false_iff_ne.2 hdne2;have hL:lookW c oo aa dd k s v=(201,v):=by
  unfold lookW passF;rw[if_neg hop,hF,if_pos rfl,<-hP',if_neg hne];rw[if_neg (fun x=>h18 x.1)]
 rw[hL];rw[hF] at HWc;have h18I:¬(oo:Int)=18:=by omega
 have h18b:((oo:Int)==18)=false:=beq_eq_false_iff_ne.2 h18I;have hdb':=hdb.symm;have hSz:(sb.size:Int)<=1024:=by omega
 have hPz:(pb.size:Int)<=1024:=by omega
 clear hM M1 S1 hb1 hsb V D B hC Wd S hk hu hgl xf hP' hQ' hpb hqb hPb hr hop S1' hcw hL hge hne hdne hssz hpsz hqsz hnn' hdb hdb2 hdby hPl hQl;go_enter Tryd.func18,Tryd.ntmps18;go_upto_region 1 with fail;rw[<-hw1,<-HG.out];clear hw1;go_upto_region 4 with (first|(go_at_call 30;refine(HP _).mono ?_;rintro e w2 ⟨rfl,rfl⟩))
 go_region_held (fun wx=>(wx.cell? ⟨g,0,none⟩=some (.string sb)/\wx.cell? ⟨g,1,none⟩=some (.int .i64 (s.2:Nat))/\wx.cell? ⟨g,2,none⟩=some (.bool true)/\wx.cell? ⟨g,3,none⟩=some (.bool dn))/\wx.cell? ⟨vb,0,none⟩=some (.slice (some ⟨qb,qo,none⟩) c.ws.length p.cw)/\wx.cell? ⟨vb,1,none⟩=some (.slice p.ac c.cs.length p.cc)/\wx.cell? ⟨vb,2,none⟩=some (.slice p.an c.ns.length p.cn)/\wx.cell? ⟨vb,3,none⟩=some (.slice p.ak c.ks.length p.ck)) (go_keep) ((go_at_call 32;refine HWc.mono ?_;rintro e w2 ⟨rfl,B2⟩;obtain⟨⟨⟨y0,y1,y2,y3⟩,⟨x0,x1,x2,x3,x8⟩,xf⟩,M2,S2⟩:=HX.out w2 B2));clear HX HWc;have xf8:=xf 8;obtain⟨z1,z2⟩:=set_e M2 201;have HZ:=Lib.hid (And.intro z1 (S2.trans z2));clear z1 z2 M2 S2 xf;go_wp2
 go_end0
 exact⟨rfl,o1,HZ.out⟩
end Go.Proofs.YtpdfdhkdfkhfkaaDoor
