import Derived.Test.YtpdfdhkdfkhfkaaDoorGrH
set_option maxRecDepth 100000
set_option maxHeartbeats 8000000
namespace Go.Proofs.YtpdfdhkdfkhfkaaDoor
open Go.ChangeShapes Go.WideShapes Go.ChangeAt Go.RowKit
set_option linter.unusedVariables false
set_option linter.unusedSimpArgs false
theorem mo_bd (o:Nat):-1<=moreI o/\moreI o<=1:=by
 unfold moreI
 repeat' split
 all_goals omega
theorem pass_parts {c:Cd}{o a b:Nat}{s t:St}(h:passF c o a b s=.inr t):fitE o a s.2=true/\s.1.drop (s.1.length-(effE c o a b).1.length)=(effE c o a b).1/\s.1.length-(effE c o a b).1.length+(effE c o a b).2.length<=1024/\t=(s.1.take (s.1.length-(effE c o a b).1.length)++(effE c o a b).2,opnE o s.2):=by
 unfold passF at h;split at h
 ·rename_i hf
  split at h
  ·rename_i hd
   split at h
   ·rename_i hl
    cases h;exact⟨hf,hd,hl,rfl⟩
   ·cases h
  ·cases h
 ·cases h
theorem looks_d (w:World)(o:Nat->Nat)(vb ls cap:Nat)(p:Pl)(c:Cd)(v:Vw)(n k oo aa dd:Nat)(s:St)(hr:rgtB c=true)(V:VwOk n v)(D:VwD v)(B:VwB v)(hn:n=c.ws.length)(hn2:n<=32768)(hk:v.tb[k]?=some (some s))(ho:opN c k=oo)(ha:aN c k=aa)(hd:bN c k=dd)(Wd:WdR c oo aa dd)(hC:∀ w' o',Step I2q w o w' o'->CdW w' p c)(hM:WkM w o vb ls cap p c (0,v))(hop:oo≠0)(h17:oo≠17)(hF:fitE oo aa s.2=true)(hdrop:s.1.drop (s.1.length-(effE c oo aa dd).1.length)=(effE c oo aa dd).1)(hlen:¬s.1.length-(effE c oo aa dd).1.length+(effE c oo aa dd).2.length<=1024) :
  Calls Tryd.prog 18 #[.pointer (some ⟨vb,0,none⟩),.int .i64 (k:Nat)] w (PostQ w o vb ls cap p c (lookW c oo aa dd k s v)):=by
 have S:=V.sts k s hk;have hkl:k<v.tb.length:=(List.getElem?_eq_some_iff.1 hk).1;have hkn:k<n:=by rw[<-V.tl];exact hkl
 have hkw:k<c.ws.length:=by rw[<-hn];exact hkn
 have hC0:=hC w o (Step.refl _ _ _);obtain⟨sb,hsb⟩:∃sb,sb=bs s.1:=⟨_,rfl⟩
 obtain⟨g,hg⟩:∃g,g=w.heap.size:=⟨_,rfl⟩
 obtain⟨dn,hdn⟩:∃dn,dn=v.dn.getD k false:=⟨_,rfl⟩
 obtain⟨w1,hw1⟩:∃w1,w1=w.alloc (.cells #[.string sb,.int .i64 (s.2:Nat),.bool true,.bool dn] 51):=⟨_,rfl⟩
 obtain⟨o1,ho1⟩:∃o1,o1=newLab w o 0:=⟨_,rfl⟩
 have S1:Step (fun _=>False) w o w1 o1:=by rw[hw1,ho1];exact new_q o _
 have S1':Step I2q w o w1 o1:=S1.mono (fun _ h=>h.elim);have M1:=hM.step S1 id id;have hb1:w1.heap[g]?=some (.cells #[.string sb,.int .i64 (s.2:Nat),.bool true,.bool dn] 51 (0,0)):=by rw[hw1,hg];exact h1G w _
 have hgl:g<w1.heap.size:=lt_of_block hb1
 -- the state's cells
 obtain⟨gs',cs',hgs,-,-,-,-,hgc,-⟩:=hM.rs.pos (by show 0<v.tb.length;omega);simp only[Value.slice.injEq,Option.some.injEq,Addr.mk.injEq,and_true,true_and] at hgs;obtain⟨rfl,rfl⟩:=hgs;have hgd:v.tb.getD k none=some s:=by rw[List.getD_eq_getElem?_getD,hk];rfl
 have l0:=(hgc (k*4+0) (by simp only;omega)).trans (stL_at v hkl (by decide:0<4));have l1:=(hgc (k*4+1) (by simp only;omega)).trans (stL_at v hkl (by decide:1<4));have l2:=(hgc (k*4+2) (by simp only;omega)).trans (stL_at v hkl (by decide:2<4));have l3:=(hgc (k*4+3) (by simp only;omega)).trans (stL_at v hkl (by decide:3<4));rw[Nat.add_zero] at l0;rw[hgd,<-hdn] at l0 l1 l2 l3;simp only[q4,List.getElem?_cons_zero,List.getElem?_cons_succ] at l0 l1 l2 l3;rw[<-hsb] at l0;obtain⟨⟨-,-,-,-,a4,-,-,-,-⟩,-⟩:=cells9q hM.blk.1;obtain⟨⟨d0,d1,d2,d3,-,-,-,-,d8⟩,df⟩:=cells9q M1.blk.1;simp only at a4 d8;obtain⟨e0,e1,e2,e3⟩:=box4_cells hb1
 -- the word
 have hws:=(hC w1 o1 S1').ws;obtain⟨qb,qo,hqa,hql,hqc⟩:=hws.at (wsV_at hkw);have hu:=hC0.ok.ws _ (List.getElem_mem hkw);have eget:c.ws.getD k 0=c.ws[k]:=by simp[List.getD_eq_getElem?_getD,List.getElem?_eq_getElem hkw]
 unfold opN at ho;unfold aN at ha;unfold bN at hd;rw[eget] at ho ha hd;have HP:∀ w,Calls Tryd.prog 30 #[.int .u64 c.ws[k]] w fun e w'=>e=.returned (.tuple #[.int .i64 (oo:Nat),.int .i64 (aa:Nat),.int .i64 (dd:Nat)])/\w'=w:=fun w=>by
  have:=rparts_any c.ws[k] w hu.1 hu.2
  rw[<-ho,<-ha,<-hd];rw[Int.toNat_of_nonneg (by show 0<=c.ws[k] / 72057594037927936;omega),Int.toNat_of_nonneg (by show 0<=c.ws[k] / 268435456 % 268435456;omega),Int.toNat_of_nonneg (by show 0<=c.ws[k] % 268435456;omega)];exact this
 generalize c.ws[k]=u at *;rw[hqa] at d0;have hlw:=hC0.lw;have hkI:(k:Int)<(c.ws.length:Int):=by omega
 have hkI2:(k:Int)<(v.tb.length:Int):=by omega
 have HG:=Lib.hid hg;have HGL:=Lib.hid hgl;have HN:=Lib.hid hn;have hcw:=hC0;clear hn hg ho1 hgc hgd eget ho ha hd hws hC0 hdn;have h0I:¬(oo:Int)=0:=by omega
 have h0b:((oo:Int)==0)=false:=beq_eq_false_iff_ne.2 h0I;have HWc:Calls Tryd.prog 32 #[cdV p c,sV s.1 s.2 true dn,.int .i64 (oo:Nat),.int .i64 (aa:Nat),.int .i64 (dd:Nat)] w1.drew (PostWd w1.drew (effE c oo aa dd).1 (effE c oo aa dd).2 (moreI oo) (fitE oo aa s.2)):=wordq_c w1.drew p c s true dn oo aa dd (hC _ _ (S1'.trans ((Step.refl I2q w1 o1).drew))) hr Wd S hop;unfold sV PostWd wrdV at HWc;simp only[cdV,cdA,hqa] at HWc;rw[<-hsb] at HWc;have hPl:=eff_len Wd;have hQl:=eff_plen Wd;have hPb:∀ k ∈ (effE c oo aa dd).1,k<256:=fun k hk=>by have:=eff_pop hr Wd k hk;omega
 have HX:Hid (∀ w2,Below w1.drew.heap.size w1.drew w2->((w2.cell? ⟨g,0,none⟩=some (.string sb)/\w2.cell? ⟨g,1,none⟩=some (.int .i64 (s.2:Nat))/\w2.cell? ⟨g,2,none⟩=some (.bool true)/\w2.cell? ⟨g,3,none⟩=some (.bool dn))/\(w2.cell? ⟨vb,0,none⟩=some (.slice (some ⟨qb,qo,none⟩) c.ws.length p.cw)/\w2.cell? ⟨vb,1,none⟩=some (.slice p.ac c.cs.length p.cc)/\w2.cell? ⟨vb,2,none⟩=some (.slice p.an c.ns.length p.cn)/\w2.cell? ⟨vb,3,none⟩=some (.slice p.ak c.ks.length p.ck)/\w2.cell? ⟨vb,8,none⟩=some (.int .i64 (0:Nat)))/\∀ j,w2.frozen? ⟨vb,j,none⟩=false)/\WkM w2 o1 vb ls cap p c (0,v)/\Step I2q w o w2 o1):=fun w2 B2=>by
  have B2':Below w1.heap.size w1 w2:=((Below.refl _ w1).drew).trans B2;have M2:=M1.step (Step.ofBelow (I:=fun _=>False) o1 B2') id id;obtain⟨⟨z0,z1,z2,z3,-,-,-,-,z8⟩,zf⟩:=cells9q M2.blk.1;rw[hqa] at z0;exact⟨⟨box4_cells ((B2'.block g hgl).trans hb1),⟨z0,z1,z2,z3,z8⟩,zf⟩,M2,S1'.trans (Step.ofBelow (I:=I2q) o1 B2')⟩
 obtain⟨⟨⟨y0,y1,y2,y3⟩,⟨x0,x1,x2,x3,x8⟩,xf⟩,-,-⟩:=HX.out w1.drew (Below.refl _ _);have hssz:sb.size=s.1.length:=by rw[hsb,bs_size]
 have hSl:=S.len;obtain⟨P,hP'⟩:∃P,P=(effE c oo aa dd).1:=⟨_,rfl⟩
 obtain⟨Q,hQ'⟩:∃Q,Q=(effE c oo aa dd).2:=⟨_,rfl⟩
 rw[<-hP'] at hPl hPb HWc;rw[<-hQ'] at hQl HWc;obtain⟨pb,hpb⟩:∃pb,pb=bs P:=⟨_,rfl⟩
 obtain⟨qbs,hqb⟩:∃qb,qb=bs Q:=⟨_,rfl⟩
 rw[<-hpb,<-hqb] at HWc;have hpsz:pb.size=P.length:=by rw[hpb,bs_size]
 have hqsz:qbs.size=Q.length:=by rw[hqb,bs_size]
 have hL:lookW c oo aa dd k s v=(201,v):=by
  unfold lookW passF;rw[if_neg hop,hF,if_pos rfl,if_pos hdrop,if_neg hlen]
 rw[hL];rw[<-hP'] at hdrop;rw[<-hP',<-hQ'] at hlen;have hge:¬s.1.length<P.length:=fun h=>by
  have:=congrArg List.length hdrop
  rw[List.length_drop] at this;omega
 obtain⟨nn,hnn'⟩:∃nn,nn=s.1.length-P.length:=⟨_,rfl⟩
 have hnn:(sb.size:Int)-(pb.size:Int)=(nn:Int):=by omega
 have hnl:(nn:Int)<=(sb.size:Int):=by omega
 have hn0:¬(nn:Int)<0:=by omega
 have hn00:(0:Int)<=(nn:Int):=by omega
 obtain⟨db,hdb⟩:∃db,db=sb.extract nn sb.size:=⟨_,rfl⟩
 have hdb2:db=bs (s.1.drop nn):=by
  rw[hdb,hssz,hsb];exact bs_drop _ _
 have hdby:∀ k ∈ s.1.drop nn,k<256:=fun k hk=>S.by k (List.mem_of_mem_drop hk)
 have hdeq:db=pb:=by rw[hdb2,hpb,hnn',hdrop]
 rw[hdeq] at hdb;have hdb':=hdb.symm;obtain⟨ta,hta⟩:∃ta,sb.extract 0 nn=ta:=⟨_,rfl⟩
 obtain⟨tb,htb⟩:∃tb,ta++qbs=tb:=⟨_,rfl⟩
 have htas:ta.size=nn:=by rw[<-hta,hsb,bs_take,bs_size,List.length_take];omega
 have htbe:tb=bs (s.1.take nn++Q):=by rw[<-htb,<-hta,hsb,bs_take,hqb,bs_app]
 have htbs:tb.size=nn+Q.length:=by rw[htbe,bs_size,List.length_append,List.length_take];omega
 have hmxz:¬maxLen<ta.size+qbs.size:=by unfold maxLen;omega
 have hmxy:¬9223372036854775807<ta.size+qbs.size:=by omega
 have hmo:=more_opn aa hF;have hmb:=mo_bd oo;obtain⟨hmb1,hmb2⟩:=hmb;have hsr:=S.rd;have hsrI:(s.2:Int)<=4:=by omega
 rw[hF] at HWc;generalize hMO:moreI oo=mo at *;generalize hRR:opnE oo s.2=rr at *;have h17I:¬(oo:Int)=17:=by omega
 have h17b:((oo:Int)==17)=false:=beq_eq_false_iff_ne.2 h17I;have hgr:(1024:Int)<(tb.size:Int):=by omega
 have hSz:(sb.size:Int)<=1024:=by omega
 have hPz:(pb.size:Int)<=1024:=by omega
 clear hM M1 S1 hb1 hsb V D B hk hu hgl xf hP' hQ' hpb hqb hPb hr hop S1' hcw hssz hpsz hqsz hnn' hdb hdb2 hdby hdeq htbe htas hPl hQl hMO hRR hdrop hF hSl hsr S Wd hC htbs hL hlen hge;go_enter Tryd.func18,Tryd.ntmps18;go_upto_region 1 with fail;rw[<-hw1,<-HG.out];clear hw1;go_upto_region 4 with (first|(go_at_call 30;refine(HP _).mono ?_;rintro e w2 ⟨rfl,rfl⟩))
 go_region_held (fun wx=>(wx.cell? ⟨g,0,none⟩=some (.string sb)/\wx.cell? ⟨g,1,none⟩=some (.int .i64 (s.2:Nat))/\wx.cell? ⟨g,2,none⟩=some (.bool true)/\wx.cell? ⟨g,3,none⟩=some (.bool dn))/\wx.cell? ⟨vb,0,none⟩=some (.slice (some ⟨qb,qo,none⟩) c.ws.length p.cw)/\wx.cell? ⟨vb,1,none⟩=some (.slice p.ac c.cs.length p.cc)/\wx.cell? ⟨vb,2,none⟩=some (.slice p.an c.ns.length p.cn)/\wx.cell? ⟨vb,3,none⟩=some (.slice p.ak c.ks.length p.ck)) (go_keep) ((go_at_call 32;refine HWc.mono ?_;rintro e w2 ⟨rfl,B2⟩;obtain⟨⟨⟨y0,y1,y2,y3⟩,⟨x0,x1,x2,x3,x8⟩,xf⟩,M2,S2⟩:=HX.out w2 B2));clear HX HWc;have xf8:=xf 8;go_upto_region 12 with fail;have NB:=Below.refl w2.heap.size w2;have hgl2:g<w2.heap.size:=by have:=B2.size;have h9:=HGL.out;simp only[World.drew] at this;omega
 obtain⟨w3,hw3⟩:∃w3,w3=(w2.alloc (.cells #[.string tb,.int .i64 (rr:Nat),.bool false,.bool false] 51)).drew:=⟨_,rfl⟩
 obtain⟨o3,ho3⟩:∃o3,o3=newLab w2 o1 0:=⟨_,rfl⟩
 have S3:Step (fun _=>False) w2 o1 w3 o3:=by rw[hw3,ho3];exact(new_q o1 _).drew
 have M3:=M2.step S3 id id;have S3':=S2.trans (S3.mono (J:=I2q) (fun _ h=>h.elim));obtain⟨g3,hg3⟩:∃g3,g3=w2.heap.size:=⟨_,rfl⟩
 have hb3:w3.heap[g3]?=some (.cells #[.string tb,.int .i64 (rr:Nat),.bool false,.bool false] 51 (0,0)):=by rw[hw3,hg3];exact h1G w2 _
 obtain⟨t0,t1,t2,t3⟩:=box4_cells hb3;obtain⟨⟨-,-,-,-,-,-,-,-,u8⟩,uf⟩:=cells9q M3.blk.1;have uf8:=uf 8;simp only at u8;have HW3:=Lib.hid hw3;have HG3:=Lib.hid hg3;have BZ:=bG w2 (.cells #[.string ⟨#[]⟩,.int .i64 0,.bool false,.bool false] 51);have q0:=(BZ.drew.cell (p:=⟨g,0,none⟩) hgl2).trans y0;have q1:=(BZ.drew.cell (p:=⟨g,1,none⟩) hgl2).trans y1;clear hw3 hg3 hb3 uf S3 M2 S2 xf ho3 xf8 x8 NB BZ;go_region;rw[<-HW3.out,<-HG3.out];obtain⟨z1,z2⟩:=set_e M3 201;have HZ:=Lib.hid (And.intro z1 (S3'.trans z2));clear z1 z2 M3 S3';go_wp2
 go_end0
 exact⟨rfl,o3,HZ.out⟩
theorem looks_d17 (w:World)(o:Nat->Nat)(vb ls cap:Nat)(p:Pl)(c:Cd)(v:Vw)(n k oo aa dd:Nat)(s:St)(hr:rgtB c=true)(V:VwOk n v)(D:VwD v)(B:VwB v)(hn:n=c.ws.length)(hn2:n<=32768)(hk:v.tb[k]?=some (some s))(ho:opN c k=oo)(ha:aN c k=aa)(hd:bN c k=dd)(Wd:WdR c oo aa dd)(hC:∀ w' o',Step I2q w o w' o'->CdW w' p c)(hM:WkM w o vb ls cap p c (0,v))(hop:oo≠0)(h17:oo=17)(hF:fitE oo aa s.2=true)(hlen:¬s.1.length<1024) :
  Calls Tryd.prog 18 #[.pointer (some ⟨vb,0,none⟩),.int .i64 (k:Nat)] w (PostQ w o vb ls cap p c (lookW c oo aa dd k s v)):=by
 have S:=V.sts k s hk;have hkl:k<v.tb.length:=(List.getElem?_eq_some_iff.1 hk).1;have hkn:k<n:=by rw[<-V.tl];exact hkl
 have hkw:k<c.ws.length:=by rw[<-hn];exact hkn
 have hC0:=hC w o (Step.refl _ _ _);obtain⟨sb,hsb⟩:∃sb,sb=bs s.1:=⟨_,rfl⟩
 obtain⟨g,hg⟩:∃g,g=w.heap.size:=⟨_,rfl⟩
 obtain⟨dn,hdn⟩:∃dn,dn=v.dn.getD k false:=⟨_,rfl⟩
 obtain⟨w1,hw1⟩:∃w1,w1=w.alloc (.cells #[.string sb,.int .i64 (s.2:Nat),.bool true,.bool dn] 51):=⟨_,rfl⟩
 obtain⟨o1,ho1⟩:∃o1,o1=newLab w o 0:=⟨_,rfl⟩
 have S1:Step (fun _=>False) w o w1 o1:=by rw[hw1,ho1];exact new_q o _
 have S1':Step I2q w o w1 o1:=S1.mono (fun _ h=>h.elim);have M1:=hM.step S1 id id;have hb1:w1.heap[g]?=some (.cells #[.string sb,.int .i64 (s.2:Nat),.bool true,.bool dn] 51 (0,0)):=by rw[hw1,hg];exact h1G w _
 have hgl:g<w1.heap.size:=lt_of_block hb1
 -- the state's cells
 obtain⟨gs',cs',hgs,-,-,-,-,hgc,-⟩:=hM.rs.pos (by show 0<v.tb.length;omega);simp only[Value.slice.injEq,Option.some.injEq,Addr.mk.injEq,and_true,true_and] at hgs;obtain⟨rfl,rfl⟩:=hgs;have hgd:v.tb.getD k none=some s:=by rw[List.getD_eq_getElem?_getD,hk];rfl
 have l0:=(hgc (k*4+0) (by simp only;omega)).trans (stL_at v hkl (by decide:0<4));have l1:=(hgc (k*4+1) (by simp only;omega)).trans (stL_at v hkl (by decide:1<4));have l2:=(hgc (k*4+2) (by simp only;omega)).trans (stL_at v hkl (by decide:2<4));have l3:=(hgc (k*4+3) (by simp only;omega)).trans (stL_at v hkl (by decide:3<4));rw[Nat.add_zero] at l0;rw[hgd,<-hdn] at l0 l1 l2 l3;simp only[q4,List.getElem?_cons_zero,List.getElem?_cons_succ] at l0 l1 l2 l3;rw[<-hsb] at l0;obtain⟨⟨-,-,-,-,a4,-,-,-,-⟩,-⟩:=cells9q hM.blk.1;obtain⟨⟨d0,d1,d2,d3,-,-,-,-,d8⟩,df⟩:=cells9q M1.blk.1;simp only at a4 d8;obtain⟨e0,e1,e2,e3⟩:=box4_cells hb1
 -- the word
 have hws:=(hC w1 o1 S1').ws;obtain⟨qb,qo,hqa,hql,hqc⟩:=hws.at (wsV_at hkw);have hu:=hC0.ok.ws _ (List.getElem_mem hkw);have eget:c.ws.getD k 0=c.ws[k]:=by simp[List.getD_eq_getElem?_getD,List.getElem?_eq_getElem hkw]
 unfold opN at ho;unfold aN at ha;unfold bN at hd;rw[eget] at ho ha hd;have HP:∀ w,Calls Tryd.prog 30 #[.int .u64 c.ws[k]] w fun e w'=>e=.returned (.tuple #[.int .i64 (oo:Nat),.int .i64 (aa:Nat),.int .i64 (dd:Nat)])/\w'=w:=fun w=>by
  have:=rparts_any c.ws[k] w hu.1 hu.2
  rw[<-ho,<-ha,<-hd];rw[Int.toNat_of_nonneg (by show 0<=c.ws[k] / 72057594037927936;omega),Int.toNat_of_nonneg (by show 0<=c.ws[k] / 268435456 % 268435456;omega),Int.toNat_of_nonneg (by show 0<=c.ws[k] % 268435456;omega)];exact this
 generalize c.ws[k]=u at *;rw[hqa] at d0;have hlw:=hC0.lw;have hkI:(k:Int)<(c.ws.length:Int):=by omega
 have hkI2:(k:Int)<(v.tb.length:Int):=by omega
 have HG:=Lib.hid hg;have HGL:=Lib.hid hgl;have HN:=Lib.hid hn;have hcw:=hC0;clear hn hg ho1 hgc hgd eget ho ha hd hws hC0 hdn;have h0I:¬(oo:Int)=0:=by omega
 have h0b:((oo:Int)==0)=false:=beq_eq_false_iff_ne.2 h0I;have HWc:Calls Tryd.prog 32 #[cdV p c,sV s.1 s.2 true dn,.int .i64 (oo:Nat),.int .i64 (aa:Nat),.int .i64 (dd:Nat)] w1.drew (PostWd w1.drew (effE c oo aa dd).1 (effE c oo aa dd).2 (moreI oo) (fitE oo aa s.2)):=wordq_c w1.drew p c s true dn oo aa dd (hC _ _ (S1'.trans ((Step.refl I2q w1 o1).drew))) hr Wd S hop;unfold sV PostWd wrdV at HWc;simp only[cdV,cdA,hqa] at HWc;rw[<-hsb] at HWc;have hPl:=eff_len Wd;have hQl:=eff_plen Wd;have hPb:∀ k ∈ (effE c oo aa dd).1,k<256:=fun k hk=>by have:=eff_pop hr Wd k hk;omega
 have HX:Hid (∀ w2,Below w1.drew.heap.size w1.drew w2->((w2.cell? ⟨g,0,none⟩=some (.string sb)/\w2.cell? ⟨g,1,none⟩=some (.int .i64 (s.2:Nat))/\w2.cell? ⟨g,2,none⟩=some (.bool true)/\w2.cell? ⟨g,3,none⟩=some (.bool dn))/\(w2.cell? ⟨vb,0,none⟩=some (.slice (some ⟨qb,qo,none⟩) c.ws.length p.cw)/\w2.cell? ⟨vb,1,none⟩=some (.slice p.ac c.cs.length p.cc)/\w2.cell? ⟨vb,2,none⟩=some (.slice p.an c.ns.length p.cn)/\w2.cell? ⟨vb,3,none⟩=some (.slice p.ak c.ks.length p.ck)/\w2.cell? ⟨vb,8,none⟩=some (.int .i64 (0:Nat)))/\∀ j,w2.frozen? ⟨vb,j,none⟩=false)/\WkM w2 o1 vb ls cap p c (0,v)/\Step I2q w o w2 o1):=fun w2 B2=>by
  have B2':Below w1.heap.size w1 w2:=((Below.refl _ w1).drew).trans B2;have M2:=M1.step (Step.ofBelow (I:=fun _=>False) o1 B2') id id;obtain⟨⟨z0,z1,z2,z3,-,-,-,-,z8⟩,zf⟩:=cells9q M2.blk.1;rw[hqa] at z0;exact⟨⟨box4_cells ((B2'.block g hgl).trans hb1),⟨z0,z1,z2,z3,z8⟩,zf⟩,M2,S1'.trans (Step.ofBelow (I:=I2q) o1 B2')⟩
 obtain⟨⟨⟨y0,y1,y2,y3⟩,⟨x0,x1,x2,x3,x8⟩,xf⟩,-,-⟩:=HX.out w1.drew (Below.refl _ _);have hssz:sb.size=s.1.length:=by rw[hsb,bs_size]
 have hSl:=S.len;obtain⟨P,hP'⟩:∃P,P=(effE c oo aa dd).1:=⟨_,rfl⟩
 obtain⟨Q,hQ'⟩:∃Q,Q=(effE c oo aa dd).2:=⟨_,rfl⟩
 rw[<-hP'] at hPl hPb HWc;rw[<-hQ'] at hQl HWc;obtain⟨pb,hpb⟩:∃pb,pb=bs P:=⟨_,rfl⟩
 obtain⟨qbs,hqb⟩:∃qb,qb=bs Q:=⟨_,rfl⟩
 rw[<-hpb,<-hqb] at HWc;have hpsz:pb.size=P.length:=by rw[hpb,bs_size]
 have hqsz:qbs.size=Q.length:=by rw[hqb,bs_size]
 have hpe:(effE c oo aa dd).1=[]/\(effE c oo aa dd).2=[]:=by subst h17;exact⟨rfl,rfl⟩
 have hdrop:s.1.drop (s.1.length-(effE c oo aa dd).1.length)=(effE c oo aa dd).1:=by rw[hpe.1];simp
 have hL:lookW c oo aa dd k s v=(201,v):=by
  have hp:passF c oo aa dd s=.inr (s.1.take (s.1.length-(effE c oo aa dd).1.length)++(effE c oo aa dd).2,opnE oo s.2):=by
   unfold passF;rw[hF,if_pos rfl,if_pos hdrop,if_pos (by rw[hpe.1,hpe.2];simp;omega)]
  have hl2:leadF c oo aa (s.1.take (s.1.length-(effE c oo aa dd).1.length)++(effE c oo aa dd).2,opnE oo s.2)=none:=by
   unfold leadF;rw[if_pos h17,if_neg (by rw[hpe.1,hpe.2];simp;omega)]
  unfold lookW;rw[if_neg hop,hp];simp only;rw[hl2]
 rw[hL];rw[<-hP'] at hdrop;have hge:¬s.1.length<P.length:=fun h=>by
  have:=congrArg List.length hdrop
  rw[List.length_drop] at this;omega
 obtain⟨nn,hnn'⟩:∃nn,nn=s.1.length-P.length:=⟨_,rfl⟩
 have hnn:(sb.size:Int)-(pb.size:Int)=(nn:Int):=by omega
 have hnl:(nn:Int)<=(sb.size:Int):=by omega
 have hn0:¬(nn:Int)<0:=by omega
 have hn00:(0:Int)<=(nn:Int):=by omega
 obtain⟨db,hdb⟩:∃db,db=sb.extract nn sb.size:=⟨_,rfl⟩
 have hdb2:db=bs (s.1.drop nn):=by
  rw[hdb,hssz,hsb];exact bs_drop _ _
 have hdby:∀ k ∈ s.1.drop nn,k<256:=fun k hk=>S.by k (List.mem_of_mem_drop hk)
 have hdeq:db=pb:=by rw[hdb2,hpb,hnn',hdrop]
 rw[hdeq] at hdb;have hdb':=hdb.symm;obtain⟨ta,hta⟩:∃ta,sb.extract 0 nn=ta:=⟨_,rfl⟩
 obtain⟨tb,htb⟩:∃tb,ta++qbs=tb:=⟨_,rfl⟩
 have htas:ta.size=nn:=by rw[<-hta,hsb,bs_take,bs_size,List.length_take];omega
 have htbe:tb=bs (s.1.take nn++Q):=by rw[<-htb,<-hta,hsb,bs_take,hqb,bs_app]
 have htbs:tb.size=nn+Q.length:=by rw[htbe,bs_size,List.length_append,List.length_take];omega
 have hmxz:¬maxLen<ta.size+qbs.size:=by unfold maxLen;omega
 have hmxy:¬9223372036854775807<ta.size+qbs.size:=by omega
 have hmo:=more_opn aa hF;have hmb:=mo_bd oo;obtain⟨hmb1,hmb2⟩:=hmb;have hsr:=S.rd;have hsrI:(s.2:Int)<=4:=by omega
 rw[hF] at HWc;generalize hMO:moreI oo=mo at *;generalize hRR:opnE oo s.2=rr at *;have hgr:(1024:Int)<(tb.size:Int)+1:=by rw[hP',hpe.1] at hnn';simp at hnn';omega
 have hq0:Q.length=0:=by rw[hQ',hpe.2];rfl
 have htz:(tb.size:Int)<=1024:=by omega
 clear hq0;have hSz:(sb.size:Int)<=1024:=by omega
 have hPz:(pb.size:Int)<=1024:=by omega
 clear hM M1 S1 hb1 hsb V D B hk hu hgl xf hP' hQ' hpb hqb hPb hr hop S1' hcw hssz hpsz hqsz hnn' hdb hdb2 hdby hdeq htbe htas hPl hQl hMO hRR hdrop hF hSl hsr S Wd hC htbs hL hlen hge hpe;subst h17;have e17:((17:Nat):Int)=17:=rfl;rw[e17] at HP HWc;clear h0I h0b e17;go_enter Tryd.func18,Tryd.ntmps18;go_upto_region 1 with fail;rw[<-hw1,<-HG.out];clear hw1;go_upto_region 4 with (first|(go_at_call 30;refine(HP _).mono ?_;rintro e w2 ⟨rfl,rfl⟩))
 go_region_held (fun wx=>(wx.cell? ⟨g,0,none⟩=some (.string sb)/\wx.cell? ⟨g,1,none⟩=some (.int .i64 (s.2:Nat))/\wx.cell? ⟨g,2,none⟩=some (.bool true)/\wx.cell? ⟨g,3,none⟩=some (.bool dn))/\wx.cell? ⟨vb,0,none⟩=some (.slice (some ⟨qb,qo,none⟩) c.ws.length p.cw)/\wx.cell? ⟨vb,1,none⟩=some (.slice p.ac c.cs.length p.cc)/\wx.cell? ⟨vb,2,none⟩=some (.slice p.an c.ns.length p.cn)/\wx.cell? ⟨vb,3,none⟩=some (.slice p.ak c.ks.length p.ck)) (go_keep) ((go_at_call 32;refine HWc.mono ?_;rintro e w2 ⟨rfl,B2⟩;obtain⟨⟨⟨y0,y1,y2,y3⟩,⟨x0,x1,x2,x3,x8⟩,xf⟩,M2,S2⟩:=HX.out w2 B2));clear HX HWc;have xf8:=xf 8;go_upto_region 12 with fail;have NB:=Below.refl w2.heap.size w2;have hgl2:g<w2.heap.size:=by have:=B2.size;have h9:=HGL.out;simp only[World.drew] at this;omega
 obtain⟨w3,hw3⟩:∃w3,w3=(w2.alloc (.cells #[.string tb,.int .i64 (rr:Nat),.bool false,.bool false] 51)).drew:=⟨_,rfl⟩
 obtain⟨o3,ho3⟩:∃o3,o3=newLab w2 o1 0:=⟨_,rfl⟩
 have S3:Step (fun _=>False) w2 o1 w3 o3:=by rw[hw3,ho3];exact(new_q o1 _).drew
 have M3:=M2.step S3 id id;have S3':=S2.trans (S3.mono (J:=I2q) (fun _ h=>h.elim));obtain⟨g3,hg3⟩:∃g3,g3=w2.heap.size:=⟨_,rfl⟩
 have hb3:w3.heap[g3]?=some (.cells #[.string tb,.int .i64 (rr:Nat),.bool false,.bool false] 51 (0,0)):=by rw[hw3,hg3];exact h1G w2 _
 obtain⟨t0,t1,t2,t3⟩:=box4_cells hb3;obtain⟨⟨-,-,-,-,-,-,-,-,u8⟩,uf⟩:=cells9q M3.blk.1;have uf8:=uf 8;simp only at u8;have HW3:=Lib.hid hw3;have HG3:=Lib.hid hg3;have BZ:=bG w2 (.cells #[.string ⟨#[]⟩,.int .i64 0,.bool false,.bool false] 51);have q0:=(BZ.drew.cell (p:=⟨g,0,none⟩) hgl2).trans y0;have q1:=(BZ.drew.cell (p:=⟨g,1,none⟩) hgl2).trans y1;clear hw3 hg3 hb3 uf S3 M2 S2 xf ho3 xf8 x8 NB BZ;go_region;rw[<-HW3.out,<-HG3.out];obtain⟨z1,z2⟩:=set_e M3 201;have HZ:=Lib.hid (And.intro z1 (S3'.trans z2));clear z1 z2 M3 S3';go_wp2
 go_end0
 exact⟨rfl,o3,HZ.out⟩
theorem looks_e17 (w:World)(o:Nat->Nat)(vb ls cap:Nat)(p:Pl)(c:Cd)(v:Vw)(n k oo aa dd:Nat)(s:St)(hr:rgtB c=true)(V:VwOk n v)(D:VwD v)(B:VwB v)(hn:n=c.ws.length)(hn2:n<=32768)(hk:v.tb[k]?=some (some s))(ho:opN c k=oo)(ha:aN c k=aa)(hd:bN c k=dd)(Wd:WdR c oo aa dd)(hC:∀ w' o',Step I2q w o w' o'->CdW w' p c)(hM:WkM w o vb ls cap p c (0,v))(hop:oo≠0)(t d:St)(h17:oo=17)(hp:passF c oo aa dd s=.inr t)(hled:leadF c oo aa t=some d) :
  Calls Tryd.prog 18 #[.pointer (some ⟨vb,0,none⟩),.int .i64 (k:Nat)] w (PostQ w o vb ls cap p c (lookW c oo aa dd k s v)):=by
 have S:=V.sts k s hk;have hkl:k<v.tb.length:=(List.getElem?_eq_some_iff.1 hk).1;have hkn:k<n:=by rw[<-V.tl];exact hkl
 have hkw:k<c.ws.length:=by rw[<-hn];exact hkn
 have hC0:=hC w o (Step.refl _ _ _);obtain⟨sb,hsb⟩:∃sb,sb=bs s.1:=⟨_,rfl⟩
 obtain⟨g,hg⟩:∃g,g=w.heap.size:=⟨_,rfl⟩
 obtain⟨dn,hdn⟩:∃dn,dn=v.dn.getD k false:=⟨_,rfl⟩
 obtain⟨w1,hw1⟩:∃w1,w1=w.alloc (.cells #[.string sb,.int .i64 (s.2:Nat),.bool true,.bool dn] 51):=⟨_,rfl⟩
 obtain⟨o1,ho1⟩:∃o1,o1=newLab w o 0:=⟨_,rfl⟩
 have S1:Step (fun _=>False) w o w1 o1:=by rw[hw1,ho1];exact new_q o _
 have S1':Step I2q w o w1 o1:=S1.mono (fun _ h=>h.elim);have M1:=hM.step S1 id id;have hb1:w1.heap[g]?=some (.cells #[.string sb,.int .i64 (s.2:Nat),.bool true,.bool dn] 51 (0,0)):=by rw[hw1,hg];exact h1G w _
 have hgl:g<w1.heap.size:=lt_of_block hb1
 -- the state's cells
 obtain⟨gs',cs',hgs,-,-,-,-,hgc,-⟩:=hM.rs.pos (by show 0<v.tb.length;omega);simp only[Value.slice.injEq,Option.some.injEq,Addr.mk.injEq,and_true,true_and] at hgs;obtain⟨rfl,rfl⟩:=hgs;have hgd:v.tb.getD k none=some s:=by rw[List.getD_eq_getElem?_getD,hk];rfl
 have l0:=(hgc (k*4+0) (by simp only;omega)).trans (stL_at v hkl (by decide:0<4));have l1:=(hgc (k*4+1) (by simp only;omega)).trans (stL_at v hkl (by decide:1<4));have l2:=(hgc (k*4+2) (by simp only;omega)).trans (stL_at v hkl (by decide:2<4));have l3:=(hgc (k*4+3) (by simp only;omega)).trans (stL_at v hkl (by decide:3<4));rw[Nat.add_zero] at l0;rw[hgd,<-hdn] at l0 l1 l2 l3;simp only[q4,List.getElem?_cons_zero,List.getElem?_cons_succ] at l0 l1 l2 l3;rw[<-hsb] at l0;obtain⟨⟨-,-,-,-,a4,-,-,-,-⟩,-⟩:=cells9q hM.blk.1;obtain⟨⟨d0,d1,d2,d3,-,-,-,-,d8⟩,df⟩:=cells9q M1.blk.1;simp only at a4 d8;obtain⟨e0,e1,e2,e3⟩:=box4_cells hb1
 -- the word
 have hws:=(hC w1 o1 S1').ws;obtain⟨qb,qo,hqa,hql,hqc⟩:=hws.at (wsV_at hkw);have hu:=hC0.ok.ws _ (List.getElem_mem hkw);have eget:c.ws.getD k 0=c.ws[k]:=by simp[List.getD_eq_getElem?_getD,List.getElem?_eq_getElem hkw]
 unfold opN at ho;unfold aN at ha;unfold bN at hd;rw[eget] at ho ha hd;have HP:∀ w,Calls Tryd.prog 30 #[.int .u64 c.ws[k]] w fun e w'=>e=.returned (.tuple #[.int .i64 (oo:Nat),.int .i64 (aa:Nat),.int .i64 (dd:Nat)])/\w'=w:=fun w=>by
  have:=rparts_any c.ws[k] w hu.1 hu.2
  rw[<-ho,<-ha,<-hd];rw[Int.toNat_of_nonneg (by show 0<=c.ws[k] / 72057594037927936;omega),Int.toNat_of_nonneg (by show 0<=c.ws[k] / 268435456 % 268435456;omega),Int.toNat_of_nonneg (by show 0<=c.ws[k] % 268435456;omega)];exact this
 generalize c.ws[k]=u at *;rw[hqa] at d0;have hlw:=hC0.lw;have hkI:(k:Int)<(c.ws.length:Int):=by omega
 have hkI2:(k:Int)<(v.tb.length:Int):=by omega
 have HG:=Lib.hid hg;have HGL:=Lib.hid hgl;have HN:=Lib.hid hn;have hcw:=hC0;clear hn hg ho1 hgc hgd eget ho ha hd hws hC0 hdn;have h0I:¬(oo:Int)=0:=by omega
 have h0b:((oo:Int)==0)=false:=beq_eq_false_iff_ne.2 h0I;have HWc:Calls Tryd.prog 32 #[cdV p c,sV s.1 s.2 true dn,.int .i64 (oo:Nat),.int .i64 (aa:Nat),.int .i64 (dd:Nat)] w1.drew (PostWd w1.drew (effE c oo aa dd).1 (effE c oo aa dd).2 (moreI oo) (fitE oo aa s.2)):=wordq_c w1.drew p c s true dn oo aa dd (hC _ _ (S1'.trans ((Step.refl I2q w1 o1).drew))) hr Wd S hop;unfold sV PostWd wrdV at HWc;simp only[cdV,cdA,hqa] at HWc;rw[<-hsb] at HWc;have hPl:=eff_len Wd;have hQl:=eff_plen Wd;have hPb:∀ k ∈ (effE c oo aa dd).1,k<256:=fun k hk=>by have:=eff_pop hr Wd k hk;omega
 have HX:Hid (∀ w2,Below w1.drew.heap.size w1.drew w2->((w2.cell? ⟨g,0,none⟩=some (.string sb)/\w2.cell? ⟨g,1,none⟩=some (.int .i64 (s.2:Nat))/\w2.cell? ⟨g,2,none⟩=some (.bool true)/\w2.cell? ⟨g,3,none⟩=some (.bool dn))/\(w2.cell? ⟨vb,0,none⟩=some (.slice (some ⟨qb,qo,none⟩) c.ws.length p.cw)/\w2.cell? ⟨vb,1,none⟩=some (.slice p.ac c.cs.length p.cc)/\w2.cell? ⟨vb,2,none⟩=some (.slice p.an c.ns.length p.cn)/\w2.cell? ⟨vb,3,none⟩=some (.slice p.ak c.ks.length p.ck)/\w2.cell? ⟨vb,8,none⟩=some (.int .i64 (0:Nat)))/\∀ j,w2.frozen? ⟨vb,j,none⟩=false)/\WkM w2 o1 vb ls cap p c (0,v)/\Step I2q w o w2 o1):=fun w2 B2=>by
  have B2':Below w1.heap.size w1 w2:=((Below.refl _ w1).drew).trans B2;have M2:=M1.step (Step.ofBelow (I:=fun _=>False) o1 B2') id id;obtain⟨⟨z0,z1,z2,z3,-,-,-,-,z8⟩,zf⟩:=cells9q M2.blk.1;rw[hqa] at z0;exact⟨⟨box4_cells ((B2'.block g hgl).trans hb1),⟨z0,z1,z2,z3,z8⟩,zf⟩,M2,S1'.trans (Step.ofBelow (I:=I2q) o1 B2')⟩
 obtain⟨⟨⟨y0,y1,y2,y3⟩,⟨x0,x1,x2,x3,x8⟩,xf⟩,-,-⟩:=HX.out w1.drew (Below.refl _ _);have hssz:sb.size=s.1.length:=by rw[hsb,bs_size]
 have hSl:=S.len;obtain⟨P,hP'⟩:∃P,P=(effE c oo aa dd).1:=⟨_,rfl⟩
 obtain⟨Q,hQ'⟩:∃Q,Q=(effE c oo aa dd).2:=⟨_,rfl⟩
 rw[<-hP'] at hPl hPb HWc;rw[<-hQ'] at hQl HWc;obtain⟨pb,hpb⟩:∃pb,pb=bs P:=⟨_,rfl⟩
 obtain⟨qbs,hqb⟩:∃qb,qb=bs Q:=⟨_,rfl⟩
 rw[<-hpb,<-hqb] at HWc;have hpsz:pb.size=P.length:=by rw[hpb,bs_size]
 have hqsz:qbs.size=Q.length:=by rw[hqb,bs_size]
 obtain⟨hF,hdrop,hlen,ht⟩:=pass_parts hp;have T:=pass_ok hr Wd S hp;have hL:lookW c oo aa dd k s v=goF oo aa dd k t d v:=by
  unfold lookW;rw[if_neg hop,hp];simp only;rw[hled]
 rw[hL];have h24:oo=24->0<t.2:=fun e=>by
  rw[ht];subst e
  have:fitE 24 aa s.2=decide (0<s.2):=by unfold fitE;simp
  rw[this] at hF;have h1:opnE 24 s.2=s.2:=by unfold opnE;simp
  show 0<opnE 24 s.2;rw[h1];exact of_decide_eq_true hF
 have hlt17:oo=17->t.1.length<1024:=fun e=>by
  unfold leadF at hled;rw[if_pos e] at hled;by_cases hx:t.1.length<1024
  ·exact hx
  ·rw[if_neg hx] at hled;cases hled
 have GO:Hid (∀ w3 o3,Step I2q w o w3 o3->WkM w3 o3 vb ls cap p c (0,v)->Calls Tryd.prog 33 #[.pointer (some ⟨vb,0,none⟩),.int .i64 (k:Nat),.int .i64 (oo:Nat),.int .i64 (aa:Nat),.int .i64 (dd:Nat),sV t.1 t.2 false false] w3 (PostQ w3 o3 vb ls cap p c (goF oo aa dd k t d v))):=fun w3 o3 S3 M3 =>
  goes_c w3 o3 vb ls cap p c v n k oo aa dd t d false false hr Wd V D B T hled h24 hn2 hkn (fun w' o' S'=>hC _ _ (S3.trans S')) M3
 have htl:t.1.length<=1024:=T.len;rw[<-hP'] at hdrop;rw[<-hP',<-hQ'] at hlen;have hge:¬s.1.length<P.length:=fun h=>by
  have:=congrArg List.length hdrop
  rw[List.length_drop] at this;omega
 obtain⟨nn,hnn'⟩:∃nn,nn=s.1.length-P.length:=⟨_,rfl⟩
 have hnn:(sb.size:Int)-(pb.size:Int)=(nn:Int):=by omega
 have hnl:(nn:Int)<=(sb.size:Int):=by omega
 have hn0:¬(nn:Int)<0:=by omega
 have hn00:(0:Int)<=(nn:Int):=by omega
 obtain⟨db,hdb⟩:∃db,db=sb.extract nn sb.size:=⟨_,rfl⟩
 have hdb2:db=bs (s.1.drop nn):=by
  rw[hdb,hssz,hsb];exact bs_drop _ _
 have hdby:∀ k ∈ s.1.drop nn,k<256:=fun k hk=>S.by k (List.mem_of_mem_drop hk)
 have hdeq:db=pb:=by rw[hdb2,hpb,hnn',hdrop]
 rw[hdeq] at hdb;have hdb':=hdb.symm;obtain⟨ta,hta⟩:∃ta,sb.extract 0 nn=ta:=⟨_,rfl⟩
 obtain⟨tb,htb⟩:∃tb,ta++qbs=tb:=⟨_,rfl⟩
 have htas:ta.size=nn:=by rw[<-hta,hsb,bs_take,bs_size,List.length_take];omega
 have htbe:tb=bs (s.1.take nn++Q):=by rw[<-htb,<-hta,hsb,bs_take,hqb,bs_app]
 have htbs:tb.size=nn+Q.length:=by rw[htbe,bs_size,List.length_append,List.length_take];omega
 have hmxz:¬maxLen<ta.size+qbs.size:=by unfold maxLen;omega
 have hmxy:¬9223372036854775807<ta.size+qbs.size:=by omega
 have hmo:=more_opn aa hF;have hmb:=mo_bd oo;obtain⟨hmb1,hmb2⟩:=hmb;have hsr:=S.rd;have hsrI:(s.2:Int)<=4:=by omega
 rw[hF] at HWc;generalize hMO:moreI oo=mo at *;generalize hRR:opnE oo s.2=rr at *;have ht2:t=(s.1.take nn++Q,rr):=by rw[ht,hnn',<-hP',<-hQ']
 have htbt:tb=bs t.1:=by rw[ht2,htbe]
 have htr:t.2=rr:=by rw[ht2]
 have htz:tb.size=t.1.length:=by rw[htbt,bs_size]
 have hgr:¬(1024:Int)<(tb.size:Int)+1:=by have:=hlt17 h17;omega
 have GOO:Hid (∀ w3 o3,Step I2q w o w3 o3->WkM w3 o3 vb ls cap p c (0,v)->Calls Tryd.prog 33 #[.pointer (some ⟨vb,0,none⟩),.int .i64 (k:Nat),.int .i64 (oo:Nat),.int .i64 (aa:Nat),.int .i64 (dd:Nat),.agg #[.string tb,.int .i64 (rr:Nat),.bool false,.bool false]] w3 (PostQ w3 o3 vb ls cap p c (goF oo aa dd k t d v))):=fun w3 o3 S3 M3=>by
  have:=GO.out w3 o3 S3 M3
  unfold sV at this;rw[<-htbt,htr] at this;exact this
 have hSz:(sb.size:Int)<=1024:=by omega
 have hPz:(pb.size:Int)<=1024:=by omega
 clear hM M1 S1 hb1 hsb V D B hk hu hgl xf hP' hQ' hpb hqb hPb hr hop S1' hcw hssz hpsz hqsz hnn' hdb hdb2 hdby hdeq htbe htas hPl hQl hMO hRR hdrop hF hSl hsr S Wd hC htbs hL hlen hge ht ht2 htbt htr htz T hp hled h24 hlt17 GO htl;subst h17;have e17:((17:Nat):Int)=17:=rfl;rw[e17] at HP HWc GOO;clear h0I h0b e17;go_enter Tryd.func18,Tryd.ntmps18;go_upto_region 1 with fail;rw[<-hw1,<-HG.out];clear hw1;go_upto_region 4 with (first|(go_at_call 30;refine(HP _).mono ?_;rintro e w2 ⟨rfl,rfl⟩))
 go_region_held (fun wx=>(wx.cell? ⟨g,0,none⟩=some (.string sb)/\wx.cell? ⟨g,1,none⟩=some (.int .i64 (s.2:Nat))/\wx.cell? ⟨g,2,none⟩=some (.bool true)/\wx.cell? ⟨g,3,none⟩=some (.bool dn))/\wx.cell? ⟨vb,0,none⟩=some (.slice (some ⟨qb,qo,none⟩) c.ws.length p.cw)/\wx.cell? ⟨vb,1,none⟩=some (.slice p.ac c.cs.length p.cc)/\wx.cell? ⟨vb,2,none⟩=some (.slice p.an c.ns.length p.cn)/\wx.cell? ⟨vb,3,none⟩=some (.slice p.ak c.ks.length p.ck)) (go_keep) ((go_at_call 32;refine HWc.mono ?_;rintro e w2 ⟨rfl,B2⟩;obtain⟨⟨⟨y0,y1,y2,y3⟩,⟨x0,x1,x2,x3,x8⟩,xf⟩,M2,S2⟩:=HX.out w2 B2));clear HX HWc;have xf8:=xf 8;go_upto_region 12 with fail;have NB:=Below.refl w2.heap.size w2;have hgl2:g<w2.heap.size:=by have:=B2.size;have h9:=HGL.out;simp only[World.drew] at this;omega
 obtain⟨w3,hw3⟩:∃w3,w3=(w2.alloc (.cells #[.string tb,.int .i64 (rr:Nat),.bool false,.bool false] 51)).drew:=⟨_,rfl⟩
 obtain⟨o3,ho3⟩:∃o3,o3=newLab w2 o1 0:=⟨_,rfl⟩
 have S3:Step (fun _=>False) w2 o1 w3 o3:=by rw[hw3,ho3];exact(new_q o1 _).drew
 have M3:=M2.step S3 id id;have S3':=S2.trans (S3.mono (J:=I2q) (fun _ h=>h.elim));obtain⟨g3,hg3⟩:∃g3,g3=w2.heap.size:=⟨_,rfl⟩
 have hb3:w3.heap[g3]?=some (.cells #[.string tb,.int .i64 (rr:Nat),.bool false,.bool false] 51 (0,0)):=by rw[hw3,hg3];exact h1G w2 _
 obtain⟨t0,t1,t2,t3⟩:=box4_cells hb3;obtain⟨⟨-,-,-,-,-,-,-,-,u8⟩,uf⟩:=cells9q M3.blk.1;have uf8:=uf 8;simp only at u8;have HW3:=Lib.hid hw3;have HG3:=Lib.hid hg3;have BZ:=bG w2 (.cells #[.string ⟨#[]⟩,.int .i64 0,.bool false,.bool false] 51);have q0:=(BZ.drew.cell (p:=⟨g,0,none⟩) hgl2).trans y0;have q1:=(BZ.drew.cell (p:=⟨g,1,none⟩) hgl2).trans y1;clear hw3 hg3 hb3 uf S3 M2 S2 xf ho3 xf8 x8 NB BZ;go_region;rw[<-HW3.out,<-HG3.out];have GC:=GOO.out w3 o3 S3' M3;clear GOO;go_wp2_with (first|(go_at_call 33;refine GC.mono ?_;rintro e w4 ⟨rfl,o4,M4,S4⟩))
 go_end0
 exact⟨rfl,o4,M4,S3'.trans S4⟩
theorem looks_e (w:World)(o:Nat->Nat)(vb ls cap:Nat)(p:Pl)(c:Cd)(v:Vw)(n k oo aa dd:Nat)(s:St)(hr:rgtB c=true)(V:VwOk n v)(D:VwD v)(B:VwB v)(hn:n=c.ws.length)(hn2:n<=32768)(hk:v.tb[k]?=some (some s))(ho:opN c k=oo)(ha:aN c k=aa)(hd:bN c k=dd)(Wd:WdR c oo aa dd)(hC:∀ w' o',Step I2q w o w' o'->CdW w' p c)(hM:WkM w o vb ls cap p c (0,v))(hop:oo≠0)(t d:St)(h17:oo≠17)(hp:passF c oo aa dd s=.inr t)(hled:leadF c oo aa t=some d) :
  Calls Tryd.prog 18 #[.pointer (some ⟨vb,0,none⟩),.int .i64 (k:Nat)] w (PostQ w o vb ls cap p c (lookW c oo aa dd k s v)):=by
 have S:=V.sts k s hk;have hkl:k<v.tb.length:=(List.getElem?_eq_some_iff.1 hk).1;have hkn:k<n:=by rw[<-V.tl];exact hkl
 have hkw:k<c.ws.length:=by rw[<-hn];exact hkn
 have hC0:=hC w o (Step.refl _ _ _);obtain⟨sb,hsb⟩:∃sb,sb=bs s.1:=⟨_,rfl⟩
 obtain⟨g,hg⟩:∃g,g=w.heap.size:=⟨_,rfl⟩
 obtain⟨dn,hdn⟩:∃dn,dn=v.dn.getD k false:=⟨_,rfl⟩
 obtain⟨w1,hw1⟩:∃w1,w1=w.alloc (.cells #[.string sb,.int .i64 (s.2:Nat),.bool true,.bool dn] 51):=⟨_,rfl⟩
 obtain⟨o1,ho1⟩:∃o1,o1=newLab w o 0:=⟨_,rfl⟩
 have S1:Step (fun _=>False) w o w1 o1:=by rw[hw1,ho1];exact new_q o _
 have S1':Step I2q w o w1 o1:=S1.mono (fun _ h=>h.elim);have M1:=hM.step S1 id id;have hb1:w1.heap[g]?=some (.cells #[.string sb,.int .i64 (s.2:Nat),.bool true,.bool dn] 51 (0,0)):=by rw[hw1,hg];exact h1G w _
 have hgl:g<w1.heap.size:=lt_of_block hb1
 -- the state's cells
 obtain⟨gs',cs',hgs,-,-,-,-,hgc,-⟩:=hM.rs.pos (by show 0<v.tb.length;omega);simp only[Value.slice.injEq,Option.some.injEq,Addr.mk.injEq,and_true,true_and] at hgs;obtain⟨rfl,rfl⟩:=hgs;have hgd:v.tb.getD k none=some s:=by rw[List.getD_eq_getElem?_getD,hk];rfl
 have l0:=(hgc (k*4+0) (by simp only;omega)).trans (stL_at v hkl (by decide:0<4));have l1:=(hgc (k*4+1) (by simp only;omega)).trans (stL_at v hkl (by decide:1<4));have l2:=(hgc (k*4+2) (by simp only;omega)).trans (stL_at v hkl (by decide:2<4));have l3:=(hgc (k*4+3) (by simp only;omega)).trans (stL_at v hkl (by decide:3<4));rw[Nat.add_zero] at l0;rw[hgd,<-hdn] at l0 l1 l2 l3;simp only[q4,List.getElem?_cons_zero,List.getElem?_cons_succ] at l0 l1 l2 l3;rw[<-hsb] at l0;obtain⟨⟨-,-,-,-,a4,-,-,-,-⟩,-⟩:=cells9q hM.blk.1;obtain⟨⟨d0,d1,d2,d3,-,-,-,-,d8⟩,df⟩:=cells9q M1.blk.1;simp only at a4 d8;obtain⟨e0,e1,e2,e3⟩:=box4_cells hb1
 -- the word
 have hws:=(hC w1 o1 S1').ws;obtain⟨qb,qo,hqa,hql,hqc⟩:=hws.at (wsV_at hkw);have hu:=hC0.ok.ws _ (List.getElem_mem hkw);have eget:c.ws.getD k 0=c.ws[k]:=by simp[List.getD_eq_getElem?_getD,List.getElem?_eq_getElem hkw]
 unfold opN at ho;unfold aN at ha;unfold bN at hd;rw[eget] at ho ha hd;have HP:∀ w,Calls Tryd.prog 30 #[.int .u64 c.ws[k]] w fun e w'=>e=.returned (.tuple #[.int .i64 (oo:Nat),.int .i64 (aa:Nat),.int .i64 (dd:Nat)])/\w'=w:=fun w=>by
  have:=rparts_any c.ws[k] w hu.1 hu.2
  rw[<-ho,<-ha,<-hd];rw[Int.toNat_of_nonneg (by show 0<=c.ws[k] / 72057594037927936;omega),Int.toNat_of_nonneg (by show 0<=c.ws[k] / 268435456 % 268435456;omega),Int.toNat_of_nonneg (by show 0<=c.ws[k] % 268435456;omega)];exact this
 generalize c.ws[k]=u at *;rw[hqa] at d0;have hlw:=hC0.lw;have hkI:(k:Int)<(c.ws.length:Int):=by omega
 have hkI2:(k:Int)<(v.tb.length:Int):=by omega
 have HG:=Lib.hid hg;have HGL:=Lib.hid hgl;have HN:=Lib.hid hn;have hcw:=hC0;clear hn hg ho1 hgc hgd eget ho ha hd hws hC0 hdn;have h0I:¬(oo:Int)=0:=by omega
 have h0b:((oo:Int)==0)=false:=beq_eq_false_iff_ne.2 h0I;have HWc:Calls Tryd.prog 32 #[cdV p c,sV s.1 s.2 true dn,.int .i64 (oo:Nat),.int .i64 (aa:Nat),.int .i64 (dd:Nat)] w1.drew (PostWd w1.drew (effE c oo aa dd).1 (effE c oo aa dd).2 (moreI oo) (fitE oo aa s.2)):=wordq_c w1.drew p c s true dn oo aa dd (hC _ _ (S1'.trans ((Step.refl I2q w1 o1).drew))) hr Wd S hop;unfold sV PostWd wrdV at HWc;simp only[cdV,cdA,hqa] at HWc;rw[<-hsb] at HWc;have hPl:=eff_len Wd;have hQl:=eff_plen Wd;have hPb:∀ k ∈ (effE c oo aa dd).1,k<256:=fun k hk=>by have:=eff_pop hr Wd k hk;omega
 have HX:Hid (∀ w2,Below w1.drew.heap.size w1.drew w2->((w2.cell? ⟨g,0,none⟩=some (.string sb)/\w2.cell? ⟨g,1,none⟩=some (.int .i64 (s.2:Nat))/\w2.cell? ⟨g,2,none⟩=some (.bool true)/\w2.cell? ⟨g,3,none⟩=some (.bool dn))/\(w2.cell? ⟨vb,0,none⟩=some (.slice (some ⟨qb,qo,none⟩) c.ws.length p.cw)/\w2.cell? ⟨vb,1,none⟩=some (.slice p.ac c.cs.length p.cc)/\w2.cell? ⟨vb,2,none⟩=some (.slice p.an c.ns.length p.cn)/\w2.cell? ⟨vb,3,none⟩=some (.slice p.ak c.ks.length p.ck)/\w2.cell? ⟨vb,8,none⟩=some (.int .i64 (0:Nat)))/\∀ j,w2.frozen? ⟨vb,j,none⟩=false)/\WkM w2 o1 vb ls cap p c (0,v)/\Step I2q w o w2 o1):=fun w2 B2=>by
  have B2':Below w1.heap.size w1 w2:=((Below.refl _ w1).drew).trans B2;have M2:=M1.step (Step.ofBelow (I:=fun _=>False) o1 B2') id id;obtain⟨⟨z0,z1,z2,z3,-,-,-,-,z8⟩,zf⟩:=cells9q M2.blk.1;rw[hqa] at z0;exact⟨⟨box4_cells ((B2'.block g hgl).trans hb1),⟨z0,z1,z2,z3,z8⟩,zf⟩,M2,S1'.trans (Step.ofBelow (I:=I2q) o1 B2')⟩
 obtain⟨⟨⟨y0,y1,y2,y3⟩,⟨x0,x1,x2,x3,x8⟩,xf⟩,-,-⟩:=HX.out w1.drew (Below.refl _ _);have hssz:sb.size=s.1.length:=by rw[hsb,bs_size]
 have hSl:=S.len;obtain⟨P,hP'⟩:∃P,P=(effE c oo aa dd).1:=⟨_,rfl⟩
 obtain⟨Q,hQ'⟩:∃Q,Q=(effE c oo aa dd).2:=⟨_,rfl⟩
 rw[<-hP'] at hPl hPb HWc;rw[<-hQ'] at hQl HWc;obtain⟨pb,hpb⟩:∃pb,pb=bs P:=⟨_,rfl⟩
 obtain⟨qbs,hqb⟩:∃qb,qb=bs Q:=⟨_,rfl⟩
 rw[<-hpb,<-hqb] at HWc;have hpsz:pb.size=P.length:=by rw[hpb,bs_size]
 have hqsz:qbs.size=Q.length:=by rw[hqb,bs_size]
 obtain⟨hF,hdrop,hlen,ht⟩:=pass_parts hp;have T:=pass_ok hr Wd S hp;have hL:lookW c oo aa dd k s v=goF oo aa dd k t d v:=by
  unfold lookW;rw[if_neg hop,hp];simp only;rw[hled]
 rw[hL];have h24:oo=24->0<t.2:=fun e=>by
  rw[ht];subst e
  have:fitE 24 aa s.2=decide (0<s.2):=by unfold fitE;simp
  rw[this] at hF;have h1:opnE 24 s.2=s.2:=by unfold opnE;simp
  show 0<opnE 24 s.2;rw[h1];exact of_decide_eq_true hF
 have hlt17:oo=17->t.1.length<1024:=fun e=>by
  unfold leadF at hled;rw[if_pos e] at hled;by_cases hx:t.1.length<1024
  ·exact hx
  ·rw[if_neg hx] at hled;cases hled
 have GO:Hid (∀ w3 o3,Step I2q w o w3 o3->WkM w3 o3 vb ls cap p c (0,v)->Calls Tryd.prog 33 #[.pointer (some ⟨vb,0,none⟩),.int .i64 (k:Nat),.int .i64 (oo:Nat),.int .i64 (aa:Nat),.int .i64 (dd:Nat),sV t.1 t.2 false false] w3 (PostQ w3 o3 vb ls cap p c (goF oo aa dd k t d v))):=fun w3 o3 S3 M3 =>
  goes_c w3 o3 vb ls cap p c v n k oo aa dd t d false false hr Wd V D B T hled h24 hn2 hkn (fun w' o' S'=>hC _ _ (S3.trans S')) M3
 have htl:t.1.length<=1024:=T.len;rw[<-hP'] at hdrop;rw[<-hP',<-hQ'] at hlen;have hge:¬s.1.length<P.length:=fun h=>by
  have:=congrArg List.length hdrop
  rw[List.length_drop] at this;omega
 obtain⟨nn,hnn'⟩:∃nn,nn=s.1.length-P.length:=⟨_,rfl⟩
 have hnn:(sb.size:Int)-(pb.size:Int)=(nn:Int):=by omega
 have hnl:(nn:Int)<=(sb.size:Int):=by omega
 have hn0:¬(nn:Int)<0:=by omega
 have hn00:(0:Int)<=(nn:Int):=by omega
 obtain⟨db,hdb⟩:∃db,db=sb.extract nn sb.size:=⟨_,rfl⟩
 have hdb2:db=bs (s.1.drop nn):=by
  rw[hdb,hssz,hsb];exact bs_drop _ _
 have hdby:∀ k ∈ s.1.drop nn,k<256:=fun k hk=>S.by k (List.mem_of_mem_drop hk)
 have hdeq:db=pb:=by rw[hdb2,hpb,hnn',hdrop]
 rw[hdeq] at hdb;have hdb':=hdb.symm;obtain⟨ta,hta⟩:∃ta,sb.extract 0 nn=ta:=⟨_,rfl⟩
 obtain⟨tb,htb⟩:∃tb,ta++qbs=tb:=⟨_,rfl⟩
 have htas:ta.size=nn:=by rw[<-hta,hsb,bs_take,bs_size,List.length_take];omega
 have htbe:tb=bs (s.1.take nn++Q):=by rw[<-htb,<-hta,hsb,bs_take,hqb,bs_app]
 have htbs:tb.size=nn+Q.length:=by rw[htbe,bs_size,List.length_append,List.length_take];omega
 have hmxz:¬maxLen<ta.size+qbs.size:=by unfold maxLen;omega
 have hmxy:¬9223372036854775807<ta.size+qbs.size:=by omega
 have hmo:=more_opn aa hF;have hmb:=mo_bd oo;obtain⟨hmb1,hmb2⟩:=hmb;have hsr:=S.rd;have hsrI:(s.2:Int)<=4:=by omega
 rw[hF] at HWc;generalize hMO:moreI oo=mo at *;generalize hRR:opnE oo s.2=rr at *;have ht2:t=(s.1.take nn++Q,rr):=by rw[ht,hnn',<-hP',<-hQ']
 have htbt:tb=bs t.1:=by rw[ht2,htbe]
 have htr:t.2=rr:=by rw[ht2]
 have htz:tb.size=t.1.length:=by rw[htbt,bs_size]
 have hgr:¬(1024:Int)<(tb.size:Int):=by omega
 have h17I:¬(oo:Int)=17:=by omega
 have h17b:((oo:Int)==17)=false:=beq_eq_false_iff_ne.2 h17I;have GOO:Hid (∀ w3 o3,Step I2q w o w3 o3->WkM w3 o3 vb ls cap p c (0,v)->Calls Tryd.prog 33 #[.pointer (some ⟨vb,0,none⟩),.int .i64 (k:Nat),.int .i64 (oo:Nat),.int .i64 (aa:Nat),.int .i64 (dd:Nat),.agg #[.string tb,.int .i64 (rr:Nat),.bool false,.bool false]] w3 (PostQ w3 o3 vb ls cap p c (goF oo aa dd k t d v))):=fun w3 o3 S3 M3=>by
  have:=GO.out w3 o3 S3 M3
  unfold sV at this;rw[<-htbt,htr] at this;exact this
 have hSz:(sb.size:Int)<=1024:=by omega
 have hPz:(pb.size:Int)<=1024:=by omega
 clear hM M1 S1 hb1 hsb V D B hk hu hgl xf hP' hQ' hpb hqb hPb hr hop S1' hcw hssz hpsz hqsz hnn' hdb hdb2 hdby hdeq htbe htas hPl hQl hMO hRR hdrop hF hSl hsr S Wd hC htbs hL hlen hge ht ht2 htbt htr htz T hp hled h24 hlt17 GO htl;go_enter Tryd.func18,Tryd.ntmps18;go_upto_region 1 with fail;rw[<-hw1,<-HG.out];clear hw1;go_upto_region 4 with (first|(go_at_call 30;refine(HP _).mono ?_;rintro e w2 ⟨rfl,rfl⟩))
 go_region_held (fun wx=>(wx.cell? ⟨g,0,none⟩=some (.string sb)/\wx.cell? ⟨g,1,none⟩=some (.int .i64 (s.2:Nat))/\wx.cell? ⟨g,2,none⟩=some (.bool true)/\wx.cell? ⟨g,3,none⟩=some (.bool dn))/\wx.cell? ⟨vb,0,none⟩=some (.slice (some ⟨qb,qo,none⟩) c.ws.length p.cw)/\wx.cell? ⟨vb,1,none⟩=some (.slice p.ac c.cs.length p.cc)/\wx.cell? ⟨vb,2,none⟩=some (.slice p.an c.ns.length p.cn)/\wx.cell? ⟨vb,3,none⟩=some (.slice p.ak c.ks.length p.ck)) (go_keep) ((go_at_call 32;refine HWc.mono ?_;rintro e w2 ⟨rfl,B2⟩;obtain⟨⟨⟨y0,y1,y2,y3⟩,⟨x0,x1,x2,x3,x8⟩,xf⟩,M2,S2⟩:=HX.out w2 B2));clear HX HWc;have xf8:=xf 8;go_upto_region 12 with fail;have NB:=Below.refl w2.heap.size w2;have hgl2:g<w2.heap.size:=by have:=B2.size;have h9:=HGL.out;simp only[World.drew] at this;omega
 obtain⟨w3,hw3⟩:∃w3,w3=(w2.alloc (.cells #[.string tb,.int .i64 (rr:Nat),.bool false,.bool false] 51)).drew:=⟨_,rfl⟩
 obtain⟨o3,ho3⟩:∃o3,o3=newLab w2 o1 0:=⟨_,rfl⟩
 have S3:Step (fun _=>False) w2 o1 w3 o3:=by rw[hw3,ho3];exact(new_q o1 _).drew
 have M3:=M2.step S3 id id;have S3':=S2.trans (S3.mono (J:=I2q) (fun _ h=>h.elim));obtain⟨g3,hg3⟩:∃g3,g3=w2.heap.size:=⟨_,rfl⟩
 have hb3:w3.heap[g3]?=some (.cells #[.string tb,.int .i64 (rr:Nat),.bool false,.bool false] 51 (0,0)):=by rw[hw3,hg3];exact h1G w2 _
 obtain⟨t0,t1,t2,t3⟩:=box4_cells hb3;obtain⟨⟨-,-,-,-,-,-,-,-,u8⟩,uf⟩:=cells9q M3.blk.1;have uf8:=uf 8;simp only at u8;have HW3:=Lib.hid hw3;have HG3:=Lib.hid hg3;have BZ:=bG w2 (.cells #[.string ⟨#[]⟩,.int .i64 0,.bool false,.bool false] 51);have q0:=(BZ.drew.cell (p:=⟨g,0,none⟩) hgl2).trans y0;have q1:=(BZ.drew.cell (p:=⟨g,1,none⟩) hgl2).trans y1;clear hw3 hg3 hb3 uf S3 M2 S2 xf ho3 xf8 x8 NB BZ;go_region;rw[<-HW3.out,<-HG3.out];have GC:=GOO.out w3 o3 S3' M3;clear GOO;go_wp2_with (first|(go_at_call 33;refine GC.mono ?_;rintro e w4 ⟨rfl,o4,M4,S4⟩))
 go_end0
 exact⟨rfl,o4,M4,S3'.trans S4⟩
theorem looks_c (w:World)(o:Nat->Nat)(vb ls cap:Nat)(p:Pl)(c:Cd)(v:Vw)(n k:Nat)(s:St)(hr:rgtB c=true)(V:VwOk n v)(D:VwD v)(B:VwB v)(hn:n=c.ws.length)(hn2:n<=32768)(hk:v.tb[k]?=some (some s))(hC:∀ w' o',Step I2q w o w' o'->CdW w' p c)(hM:WkM w o vb ls cap p c (0,v)) :
  Calls Tryd.prog 18 #[.pointer (some ⟨vb,0,none⟩),.int .i64 (k:Nat)] w (PostQ w o vb ls cap p c (lookW c (opN c k) (aN c k) (bN c k) k s v)):=by
 have hkl:k<v.tb.length:=(List.getElem?_eq_some_iff.1 hk).1;have hkw:k<c.ws.length:=by rw[<-hn,<-V.tl];exact hkl
 have Wd:=wdr_of (hC w o (Step.refl _ _ _)).ok hr hkw;generalize ho:opN c k=oo at *;generalize ha:aN c k=aa at *;generalize hd:bN c k=dd at *;by_cases h0:oo=0
 ·exact looks_0 w o vb ls cap p c v n k oo aa dd s hr V D B hn hn2 hk ho ha hd Wd hC hM h0
 cases hF:fitE oo aa s.2
 ·exact looks_a w o vb ls cap p c v n k oo aa dd s hr V D B hn hn2 hk ho ha hd Wd hC hM h0 hF
 by_cases hlt:s.1.length<(effE c oo aa dd).1.length
 ·exact looks_b w o vb ls cap p c v n k oo aa dd s hr V D B hn hn2 hk ho ha hd Wd hC hM h0 hF hlt
 by_cases hdrop:s.1.drop (s.1.length-(effE c oo aa dd).1.length)=(effE c oo aa dd).1
 case neg =>
  by_cases h18:oo=18
  ·exact looks_c18 w o vb ls cap p c v n k oo aa dd s hr V D B hn hn2 hk ho ha hd Wd hC hM h0 hF hlt hdrop h18
  ·exact looks_c' w o vb ls cap p c v n k oo aa dd s hr V D B hn hn2 hk ho ha hd Wd hC hM h0 hF hlt hdrop h18
 case pos =>
 by_cases h17:oo=17
 ·by_cases hl:s.1.length<1024
  ·have hpe:(effE c oo aa dd).1=[]/\(effE c oo aa dd).2=[]:=by subst h17;exact⟨rfl,rfl⟩
   have hp:passF c oo aa dd s=.inr (s.1,opnE oo s.2):=by
    unfold passF;rw[hF,if_pos rfl,if_pos hdrop,hpe.1,hpe.2,if_pos (by simp;omega)];simp
   have hled:leadF c oo aa (s.1,opnE oo s.2)=some (s.1++[kdC c aa],opnE oo s.2):=by
    unfold leadF;rw[if_pos h17,if_pos hl]
   exact looks_e17 w o vb ls cap p c v n k oo aa dd s hr V D B hn hn2 hk ho ha hd Wd hC hM h0 _ _ h17 hp hled
  ·exact looks_d17 w o vb ls cap p c v n k oo aa dd s hr V D B hn hn2 hk ho ha hd Wd hC hM h0 h17 hF hl
 ·by_cases hlen:s.1.length-(effE c oo aa dd).1.length+(effE c oo aa dd).2.length<=1024
  ·have hp:passF c oo aa dd s=.inr (s.1.take (s.1.length-(effE c oo aa dd).1.length)++(effE c oo aa dd).2,opnE oo s.2):=by
    unfold passF;rw[hF,if_pos rfl,if_pos hdrop,if_pos hlen]
   obtain⟨d,hled⟩:∃d,leadF c oo aa (s.1.take (s.1.length-(effE c oo aa dd).1.length)++(effE c oo aa dd).2,opnE oo s.2)=some d:=by
    unfold leadF;rw[if_neg h17];split
    ·exact⟨_,rfl⟩
    ·exact⟨_,rfl⟩
   exact looks_e w o vb ls cap p c v n k oo aa dd s hr V D B hn hn2 hk ho ha hd Wd hC hM h0 _ _ h17 hp hled
  ·exact looks_d w o vb ls cap p c v n k oo aa dd s hr V D B hn hn2 hk ho ha hd Wd hC hM h0 h17 hF hdrop hlen
end Go.Proofs.YtpdfdhkdfkhfkaaDoor
