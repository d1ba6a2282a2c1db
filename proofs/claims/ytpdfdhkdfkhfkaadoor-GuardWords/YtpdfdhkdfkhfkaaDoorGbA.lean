import Derived.Test.YtpdfdhkdfkhfkaaDoorApp1
set_option maxRecDepth 100000
set_option maxHeartbeats 8000000
namespace Go.Proofs.YtpdfdhkdfkhfkaaDoor
open Go.ChangeShapes Go.WideShapes Go.ChangeAt Go.RowKit
set_option linter.unusedVariables false
set_option linter.unusedSimpArgs false
structure CdLen (c:Cd):Prop where
 ws:c.ws.length*8<=140737488351232
 cs:c.cs.length*8<=140737488351232
 ns:c.ns.length*16<=140737488351232
 ks:c.ks.length*8<=140737488351232
abbrev behS:ByteArray:=⟨#[98,101,104,105,110,100]⟩
def Mor (w:World)(ao:Option Addr)(n cap:Nat)(v:Value):Prop:=∃g,ao=some ⟨g,0,none⟩/\g<w.heap.size/\n+1<=cap/\w.cell? ⟨g,n,none⟩=some v
theorem Mor.below {w w':World}{ao:Option Addr}{n cap:Nat}{v:Value}(h:Mor w ao n cap v)(B:Below w.heap.size w w'):Mor w' ao n cap v:=by
 obtain⟨g,h1,h2,h3,h4⟩:=h;exact⟨g,h1,Nat.lt_of_lt_of_le h2 B.size,h3,(B.cell (p:=⟨g,n,none⟩) h2).trans h4⟩
structure Lnt (w:World)(q:Pl)(c:Cd):Prop where
 cd:CdW w q c
 mw:Mor w q.aw c.ws.length q.cw (.int .u64 7)
 mc:Mor w q.ac c.cs.length q.cc (.int .i64 (-7))
 mn:Mor w q.an c.ns.length q.cn (.string behS)
 mq:Mor w q.ak c.ks.length q.ck (.int .i64 (-7))
theorem Lnt.below {w w':World}{q:Pl}{c:Cd}(h:Lnt w q c)(B:Below w.heap.size w w'):Lnt w' q c:=⟨h.cd.below B,h.mw.below B,h.mc.below B,h.mn.below B,h.mq.below B⟩
theorem row_more {w:World}{o:Nat->Nat}{i:Nat}{e:TypeId}{g n cap:Nat}{xs:List Value}{v:Value}(h:Row w o i e 1 (.slice (some ⟨g,0,none⟩) (n+1) cap) (n+1) (xs++[v]))(hx:xs.length=n):Lsv w (some ⟨g,0,none⟩) xs/\Mor w (some ⟨g,0,none⟩) n cap v:=by
 obtain⟨g',cap',hv,-,hc,-,hlt,hcell,-⟩:=h.pos (by omega);simp only[Value.slice.injEq,Option.some.injEq,Addr.mk.injEq,and_true,true_and] at hv;obtain⟨rfl,rfl⟩:=hv;refine⟨?_,g,rfl,hlt,hc,?_⟩
 ·by_cases hn:xs=[]
  ·exact .inl hn
  ·refine .inr ⟨g,0,rfl,hlt,fun j x hj=>?_⟩;have hjl:=(List.getElem?_eq_some_iff.1 hj).1;rw[Nat.zero_add,hcell j (by omega),List.getElem?_append_left hjl];exact hj
 ·rw[hcell n (by omega),List.getElem?_append_right (by omega),hx];simp
def LentOut (w:World)(c:Cd)(z:Ending)(w':World):Prop:=∃q,z=.returned (cdV q c)/\Lnt w' q c/\Below w.heap.size w w'
theorem lent_c (p:Pl)(c:Cd)(w:World)(hC:CdW w p c)(hl:CdLen c) :
  Calls Tryd.prog 10 #[cdV p c] w (LentOut w c):=by
 obtain⟨i0,hi0,za0,za1,za2⟩:=info_parts infoW;obtain⟨i1,hi1,zb0,zb1,zb2⟩:=info_parts infoI;obtain⟨i2,hi2,zc0,zc1,zc2⟩:=info_parts infoS;obtain⟨lw,lc,ln,lk⟩:=hl;obtain⟨g,hg⟩:∃g,g=w.heap.size:=⟨_,rfl⟩
 obtain⟨w2,hw2⟩:∃w2,w2=(w.alloc (.cells (cdA p c) 26)).alloc (.cells nil4 26):=⟨_,rfl⟩
 have B1:Below g w w2:=by rw[hw2,hg];exact((Below.refl _ w).alloc (Nat.le_refl _) _).alloc (by simp) _
 have sz2:w2.heap.size=g+2:=by rw[hw2,hg];simp
 obtain⟨o,ho⟩:∃o:Nat->Nat,o=fun k=>if k<g then 0 else 9:=⟨_,rfl⟩
 have hol:∀ k,k<g->o k=0:=fun k hk=>by rw[ho];simp[hk]
 have G0:Blk w2 o 9 g (.cells (cdA p c) 26):=by
  refine⟨?_,by rw[ho];simp⟩;rw[hw2,hg];exact(Below.heap_alloc _ _ _ (by simp)).trans (heap_alloc_new _ _)
 have G1:Blk w2 o 9 (g+1) (.cells nil4 26):=by
  refine⟨?_,by rw[ho];simp⟩
  have:=heap_alloc_new (w.alloc (.cells (cdA p c) 26)) (.cells nil4 26)
  rw[hw2,hg];simpa using this
 have HG:=Lib.hid hg;have C2:CdW w2 p c:=hC.below (by rw[<-hg];exact B1);have hbs:∀ {xs:List Value}{ao:Option Addr},Lsv w ao xs->xs≠[]->∃b off,ao=some ⟨b,off,none⟩/\b<g:=fun {xs ao} h hx=>by
  rcases h with h|⟨b,off,e,hlt,_⟩
  ·exact absurd h hx
  ·exact⟨b,off,e,by rw[hg];exact hlt⟩
 have NW:∀ {w3:World}{o3:Nat->Nat}{I:Nat->Prop}{xs:List Value}{ao:Option Addr},Lsv w2 ao xs->Lsv w ao xs->Step I w2 o w3 o3->¬I 0->0<xs.length->∃ad,ao=some ad/\∀ j u,xs[j]?=some u->w3.cell? (ad.add j)=some u:=fun {w3 o3 I xs ao} h h0 s hi hx=>by
  obtain⟨b,off,rfl,hb⟩:=hbs h0 (fun e=>by subst e;simp at hx);rcases h with h|⟨b',off',e,hlt,hc⟩
  ·subst h;simp at hx
  ·cases e;refine⟨_,rfl,fun j u hj=>?_⟩;rw[Addr.add_mid];exact(World.cell?_of_block (a:=⟨b,off+j,none⟩) (s.block b hlt (by rw[hol b hb];exact hi))).trans (hc j u hj)
 clear hg ho;have S2:Step (fun k=>3<=k/\k<=6) w2 o w2 o:=Step.refl _ _ _;obtain⟨⟨k0,k1,k2,k3⟩,-⟩:=cells4 G0.1;go_enter Tryd.func10,Tryd.ntmps10;go_upto_region 5 with fail;rw[<-hw2,<-HG.out];clear hw2;have hlen0:(wsV c.ws).length=c.ws.length:=by simp[wsV]
 have h1c0:∀ u ∈ wsV c.ws,u.oneCell'=true:=fun u hu=>by simp only[wsV,List.mem_map] at hu;obtain⟨_,_,rfl⟩:=hu;rfl
 have nw0:=NW C2.ws hC.ws S2 (by decide);rw[hlen0] at nw0;go_wp2_with (first|(at_builtin;refine wpList_append_any rfl _ _ 22 rfl 53 i0 (.int .u64 0) 1 8 Tryd.underlying22 hi0 za0 za1 za2 rfl (by decide) o 3 (.slice none 0 0) 0 [] rfl (Row.nil _ _ _ _ _) p.aw c.ws.length _ (wsV c.ws) rfl (by rw[hlen0,Nat.mul_one]) nw0 h1c0 ?a0 ?b0 ?_)|go_in)
 case a0=>unfold maxLen;omega
 case b0=>omega
 intro ao0 cp0 wb0 ob0 RB0 SB0
 (try rw[List.nil_append,Nat.zero_add] at RB0)
 go_wp2_with (first|(at_builtin;refine wpList_append_lab rfl _ _ 22 rfl 53 i0 (.int .u64 0) 1 8 Tryd.underlying22 hi0 za0 za1 za2 rfl (by decide) ob0 3 _ c.ws.length (wsV c.ws) (by first|rfl|(simp;done)) (RB0.step (Step.ofBelow (I:=fun _=>False) ob0 (b1 _ _)) (fun h=>h)) ⟨wb0.heap.size,0,none⟩ 1 1 [.int .u64 7] rfl rfl ?c0 ?d0 (by decide) ?e0 ?f0 ?_)|go_in)
 case c0=>exact new_one _ _ _
 case d0=>exact one_one _ rfl
 case e0=>unfold maxLen;omega
 case f0=>omega
 intro ga0 ca0 wa0 oa0 RA0 SA0;have SX0:Step (fun k=>3<=k/\k<=6) w2 o wa0 oa0:=((S2.trans (SB0.mono (fun k hk=>by subst hk;decide))).trans (Step.ofBelow ob0 (b1 wb0 (.cells #[.int .u64 7] 53)))).trans (SA0.mono (fun k hk=>by subst hk;decide));clear RB0 SB0 SA0 k0 k1 k2 k3 nw0;have K0:=G0.step SX0 (by decide);obtain⟨⟨k0,k1,k2,k3⟩,-⟩:=cells4 K0.1;have hlen1:(isV c.cs).length=c.cs.length:=by simp[isV]
 have h1c1:∀ u ∈ isV c.cs,u.oneCell'=true:=fun u hu=>by simp only[isV,List.mem_map] at hu;obtain⟨_,_,rfl⟩:=hu;rfl
 have nw1:=NW C2.cs hC.cs SX0 (by decide);rw[hlen1] at nw1;go_wp2_with (first|(at_builtin;refine wpList_append_any rfl _ _ 23 rfl 3 i1 (.int .i64 0) 1 8 Tryd.underlying23 hi1 zb0 zb1 zb2 rfl (by decide) oa0 4 (.slice none 0 0) 0 [] rfl (Row.nil _ _ _ _ _) p.ac c.cs.length _ (isV c.cs) rfl (by rw[hlen1,Nat.mul_one]) nw1 h1c1 ?a1 ?b1 ?_)|go_in)
 case a1=>unfold maxLen;omega
 case b1=>omega
 intro ao1 cp1 wb1 ob1 RB1 SB1
 (try rw[List.nil_append,Nat.zero_add] at RB1)
 go_wp2_with (first|(at_builtin;refine wpList_append_lab rfl _ _ 23 rfl 3 i1 (.int .i64 0) 1 8 Tryd.underlying23 hi1 zb0 zb1 zb2 rfl (by decide) ob1 4 _ c.cs.length (isV c.cs) (by first|rfl|(simp;done)) (RB1.step (Step.ofBelow (I:=fun _=>False) ob1 (b1 _ _)) (fun h=>h)) ⟨wb1.heap.size,0,none⟩ 1 1 [.int .i64 (-7)] rfl rfl ?c1 ?d1 (by decide) ?e1 ?f1 ?_)|go_in)
 case c1=>exact new_one _ _ _
 case d1=>exact one_one _ rfl
 case e1=>unfold maxLen;omega
 case f1=>omega
 intro ga1 ca1 wa1 oa1 RA1 SA1;have SX1:Step (fun k=>3<=k/\k<=6) w2 o wa1 oa1:=((SX0.trans (SB1.mono (fun k hk=>by subst hk;decide))).trans (Step.ofBelow ob1 (b1 wb1 (.cells #[.int .i64 (-7)] 3)))).trans (SA1.mono (fun k hk=>by subst hk;decide))
 replace RA0:=((RA0.step SB1 (by decide)).step (Step.ofBelow (I:=fun _=>False) ob1 (b1 wb1 (.cells #[.int .i64 (-7)] 3))) (fun h=>h)).step SA1 (by decide)
 clear RB1 SB1 SA1 k0 k1 k2 k3 nw1;have K1:=G0.step SX1 (by decide);obtain⟨⟨k0,k1,k2,k3⟩,-⟩:=cells4 K1.1;have hlen2:(nsV c.ns).length=c.ns.length:=by simp[nsV]
 have h1c2:∀ u ∈ nsV c.ns,u.oneCell'=true:=fun u hu=>by simp only[nsV,List.mem_map] at hu;obtain⟨_,_,rfl⟩:=hu;rfl
 have nw2:=NW C2.ns hC.ns SX1 (by decide);rw[hlen2] at nw2;go_wp2_with (first|(at_builtin;refine wpList_append_any rfl _ _ 24 rfl 9 i2 (.string ⟨#[]⟩) 1 16 Tryd.underlying24 hi2 zc0 zc1 zc2 rfl (by decide) oa1 5 (.slice none 0 0) 0 [] rfl (Row.nil _ _ _ _ _) p.an c.ns.length _ (nsV c.ns) rfl (by rw[hlen2,Nat.mul_one]) nw2 h1c2 ?a2 ?b2 ?_)|go_in)
 case a2=>unfold maxLen;omega
 case b2=>omega
 intro ao2 cp2 wb2 ob2 RB2 SB2
 (try rw[List.nil_append,Nat.zero_add] at RB2)
 go_wp2_with (first|(at_builtin;refine wpList_append_lab rfl _ _ 24 rfl 9 i2 (.string ⟨#[]⟩) 1 16 Tryd.underlying24 hi2 zc0 zc1 zc2 rfl (by decide) ob2 5 _ c.ns.length (nsV c.ns) (by first|rfl|(simp;done)) (RB2.step (Step.ofBelow (I:=fun _=>False) ob2 (b1 _ _)) (fun h=>h)) ⟨wb2.heap.size,0,none⟩ 1 1 [.string behS] rfl rfl ?c2 ?d2 (by decide) ?e2 ?f2 ?_)|go_in)
 case c2=>exact new_one _ _ _
 case d2=>exact one_one _ rfl
 case e2=>unfold maxLen;omega
 case f2=>omega
 intro ga2 ca2 wa2 oa2 RA2 SA2;have SX2:Step (fun k=>3<=k/\k<=6) w2 o wa2 oa2:=((SX1.trans (SB2.mono (fun k hk=>by subst hk;decide))).trans (Step.ofBelow ob2 (b1 wb2 (.cells #[.string behS] 9)))).trans (SA2.mono (fun k hk=>by subst hk;decide))
 replace RA0:=((RA0.step SB2 (by decide)).step (Step.ofBelow (I:=fun _=>False) ob2 (b1 wb2 (.cells #[.string behS] 9))) (fun h=>h)).step SA2 (by decide)
 replace RA1:=((RA1.step SB2 (by decide)).step (Step.ofBelow (I:=fun _=>False) ob2 (b1 wb2 (.cells #[.string behS] 9))) (fun h=>h)).step SA2 (by decide)
 clear RB2 SB2 SA2 k0 k1 k2 k3 nw2;have K2:=G0.step SX2 (by decide);obtain⟨⟨k0,k1,k2,k3⟩,-⟩:=cells4 K2.1;have hlen3:(isV c.ks).length=c.ks.length:=by simp[isV]
 have h1c3:∀ u ∈ isV c.ks,u.oneCell'=true:=fun u hu=>by simp only[isV,List.mem_map] at hu;obtain⟨_,_,rfl⟩:=hu;rfl
 have nw3:=NW C2.ks hC.ks SX2 (by decide);rw[hlen3] at nw3;go_wp2_with (first|(at_builtin;refine wpList_append_any rfl _ _ 23 rfl 3 i1 (.int .i64 0) 1 8 Tryd.underlying23 hi1 zb0 zb1 zb2 rfl (by decide) oa2 6 (.slice none 0 0) 0 [] rfl (Row.nil _ _ _ _ _) p.ak c.ks.length _ (isV c.ks) rfl (by rw[hlen3,Nat.mul_one]) nw3 h1c3 ?a3 ?b3 ?_)|go_in)
 case a3=>unfold maxLen;omega
 case b3=>omega
 intro ao3 cp3 wb3 ob3 RB3 SB3
 (try rw[List.nil_append,Nat.zero_add] at RB3)
 go_wp2_with (first|(at_builtin;refine wpList_append_lab rfl _ _ 23 rfl 3 i1 (.int .i64 0) 1 8 Tryd.underlying23 hi1 zb0 zb1 zb2 rfl (by decide) ob3 6 _ c.ks.length (isV c.ks) (by first|rfl|(simp;done)) (RB3.step (Step.ofBelow (I:=fun _=>False) ob3 (b1 _ _)) (fun h=>h)) ⟨wb3.heap.size,0,none⟩ 1 1 [.int .i64 (-7)] rfl rfl ?c3 ?d3 (by decide) ?e3 ?f3 ?_)|go_in)
 case c3=>exact new_one _ _ _
 case d3=>exact one_one _ rfl
 case e3=>unfold maxLen;omega
 case f3=>omega
 intro ga3 ca3 wa3 oa3 RA3 SA3;have SX3:Step (fun k=>3<=k/\k<=6) w2 o wa3 oa3:=((SX2.trans (SB3.mono (fun k hk=>by subst hk;decide))).trans (Step.ofBelow ob3 (b1 wb3 (.cells #[.int .i64 (-7)] 3)))).trans (SA3.mono (fun k hk=>by subst hk;decide))
 replace RA0:=((RA0.step SB3 (by decide)).step (Step.ofBelow (I:=fun _=>False) ob3 (b1 wb3 (.cells #[.int .i64 (-7)] 3))) (fun h=>h)).step SA3 (by decide)
 replace RA1:=((RA1.step SB3 (by decide)).step (Step.ofBelow (I:=fun _=>False) ob3 (b1 wb3 (.cells #[.int .i64 (-7)] 3))) (fun h=>h)).step SA3 (by decide)
 replace RA2:=((RA2.step SB3 (by decide)).step (Step.ofBelow (I:=fun _=>False) ob3 (b1 wb3 (.cells #[.int .i64 (-7)] 3))) (fun h=>h)).step SA3 (by decide)
 clear RB3 SB3 SA3 k0 k1 k2 k3 nw3;have K3:=G0.step SX3 (by decide);obtain⟨⟨k0,k1,k2,k3⟩,-⟩:=cells4 K3.1;have Z3:=G1.step SX3 (by decide);have cp0:=(Row.cap RA0).2.1;have cp1:=(Row.cap RA1).2.1;have cp2:=(Row.cap RA2).2.1;have cp3:=(Row.cap RA3).2.1;have cI0:(c.ws.length:Int)<=(ca0:Int):=by omega
 have cI1:(c.cs.length:Int)<=(ca1:Int):=by omega
 have cI2:(c.ns.length:Int)<=(ca2:Int):=by omega
 have cI3:(c.ks.length:Int)<=(ca3:Int):=by omega
 have KA:bx4 p c wa3.drew g:=⟨k0,k1,k2,k3⟩
 have hd3:wa3.drew.heap[g+1]?=some (.cells nil4 26):=Z3.1;have SD:∀ {I:Nat->Prop},Step I wa3 oa3 wa3.drew oa3:=fun {I}=>(Step.refl I wa3 oa3).drew;obtain⟨⟨d0,d1,d2,d3⟩,df⟩:=cells4 hd3;have df0:=df 0;have df1:=df 1;have df2:=df 2;have df3:=df 3;have ZE:=set4c (.slice (some ⟨ga0,0,none⟩) c.ws.length ca0) (.slice (some ⟨ga1,0,none⟩) c.cs.length ca1) (.slice (some ⟨ga2,0,none⟩) c.ns.length ca2) (.slice (some ⟨ga3,0,none⟩) c.ks.length ca3) hd3;have hI9:∀ {I:Nat->Prop},I 9->I (oa3 (g+1)):=fun {I} h=>by rw[Z3.2];exact h
 have SE:∀ {I:Nat->Prop},I 9->Step I wa3 oa3 ((((wa3.drew.setCell ⟨g+1,0,none⟩ (.slice (some ⟨ga0,0,none⟩) c.ws.length ca0)).setCell ⟨g+1,1,none⟩ (.slice (some ⟨ga1,0,none⟩) c.cs.length ca1)).setCell ⟨g+1,2,none⟩ (.slice (some ⟨ga2,0,none⟩) c.ns.length ca2)).setCell ⟨g+1,3,none⟩ (.slice (some ⟨ga3,0,none⟩) c.ks.length ca3)) oa3:=fun {I} h=>((((SD.setCell ⟨g+1,0,none⟩ _ (hI9 h)).setCell ⟨g+1,1,none⟩ _ (hI9 h)).setCell ⟨g+1,2,none⟩ _ (hI9 h)).setCell ⟨g+1,3,none⟩ _ (hI9 h));have hkeep:bx4 p c ((((wa3.drew.setCell ⟨g+1,0,none⟩ (.slice (some ⟨ga0,0,none⟩) c.ws.length ca0)).setCell ⟨g+1,1,none⟩ (.slice (some ⟨ga1,0,none⟩) c.cs.length ca1)).setCell ⟨g+1,2,none⟩ (.slice (some ⟨ga2,0,none⟩) c.ns.length ca2)).setCell ⟨g+1,3,none⟩ (.slice (some ⟨ga3,0,none⟩) c.ks.length ca3)) g:=by
  have hh:(((((wa3.drew.setCell ⟨g+1,0,none⟩ (.slice (some ⟨ga0,0,none⟩) c.ws.length ca0)).setCell ⟨g+1,1,none⟩ (.slice (some ⟨ga1,0,none⟩) c.cs.length ca1)).setCell ⟨g+1,2,none⟩ (.slice (some ⟨ga2,0,none⟩) c.ns.length ca2)).setCell ⟨g+1,3,none⟩ (.slice (some ⟨ga3,0,none⟩) c.ks.length ca3))).heap[g]?=wa3.drew.heap[g]?:=by
   rw[heap_setCell_other _ _ _ _ (by show g≠g+1;omega),heap_setCell_other _ _ _ _ (by show g≠g+1;omega),heap_setCell_other _ _ _ _ (by show g≠g+1;omega),heap_setCell_other _ _ _ _ (by show g≠g+1;omega)]
  exact⟨(World.cell?_of_block (a:=⟨g,0,none⟩) hh).trans KA.1,(World.cell?_of_block (a:=⟨g,1,none⟩) hh).trans KA.2.1,(World.cell?_of_block (a:=⟨g,2,none⟩) hh).trans KA.2.2.1,(World.cell?_of_block (a:=⟨g,3,none⟩) hh).trans KA.2.2.2⟩
 have S9:=SE (I:=fun k=>k=9) rfl;have r0:=row_more (RA0.step S9 (by decide)) hlen0;have r1:=row_more (RA1.step S9 (by decide)) hlen1;have r2:=row_more (RA2.step S9 (by decide)) hlen2;have r3:=row_more (RA3.step S9 (by decide)) hlen3;have BE:Below g w ((((wa3.drew.setCell ⟨g+1,0,none⟩ (.slice (some ⟨ga0,0,none⟩) c.ws.length ca0)).setCell ⟨g+1,1,none⟩ (.slice (some ⟨ga1,0,none⟩) c.cs.length ca1)).setCell ⟨g+1,2,none⟩ (.slice (some ⟨ga2,0,none⟩) c.ns.length ca2)).setCell ⟨g+1,3,none⟩ (.slice (some ⟨ga3,0,none⟩) c.ks.length ca3)):=by
  have s:Step (fun k=>(3<=k/\k<=6)\/k=9) w2 o ((((wa3.drew.setCell ⟨g+1,0,none⟩ (.slice (some ⟨ga0,0,none⟩) c.ws.length ca0)).setCell ⟨g+1,1,none⟩ (.slice (some ⟨ga1,0,none⟩) c.cs.length ca1)).setCell ⟨g+1,2,none⟩ (.slice (some ⟨ga2,0,none⟩) c.ns.length ca2)).setCell ⟨g+1,3,none⟩ (.slice (some ⟨ga3,0,none⟩) c.ks.length ca3)) oa3:=(SX3.mono (fun k hk=>Or.inl hk)).trans (SE (Or.inr rfl));exact B1.trans ⟨s.os,s.tape,s.output,s.size,fun k hk=>s.block k (by omega) (by rw[hol k hk];decide)⟩
 have HL:Hid (Lnt ((((wa3.drew.setCell ⟨g+1,0,none⟩ (.slice (some ⟨ga0,0,none⟩) c.ws.length ca0)).setCell ⟨g+1,1,none⟩ (.slice (some ⟨ga1,0,none⟩) c.cs.length ca1)).setCell ⟨g+1,2,none⟩ (.slice (some ⟨ga2,0,none⟩) c.ns.length ca2)).setCell ⟨g+1,3,none⟩ (.slice (some ⟨ga3,0,none⟩) c.ks.length ca3)) ⟨some ⟨ga0,0,none⟩,ca0,some ⟨ga1,0,none⟩,ca1,some ⟨ga2,0,none⟩,ca2,some ⟨ga3,0,none⟩,ca3⟩ c):=⟨⟨hC.ok,r0.1,r1.1,r2.1,r3.1,hC.lw,hC.lc,hC.ln,hC.lk⟩,r0.2,r1.2,r2.2,r3.2⟩
 have HBE:=Lib.hid BE;obtain⟨⟨u0,u1,u2,u3⟩,-⟩:=cells4 ZE;have HKP:=Lib.hid hkeep;clear RA0 RA1 RA2 RA3 SX3 SX2 SX1 SX0 S9 r0 r1 r2 r3 BE ZE SE hI9 SD hkeep K0 K1 K2 K3 G0 G1 Z3 hd3 NW hbs C2 hC df;go_upto_region 9 with fail;refine wp_region_held_drew (S:=fun wx=>bx4 p c wx g) (by kernel_rfl) KA (fun hHeld=>?_);generalize wa3.drew=wd at *;refine wpAnyH_take (i:=0) (v:=?v1) rfl (by kernel_rfl) (by kernel_rfl) (by kernel_rfl) (fun _ _ _ h=>h) (Or.inl ⟨by rfl,?hy1⟩) (by assumption) ?rest1
 case hy1=>(intro w hSw;(try dsimp only at hSw);go_simp;all_goals (with_reducible rfl))
 simp only[Act.put,List.getElem_toArray,List.getElem_cons_zero,List.getElem_cons_succ,List.setIfInBounds_toArray,List.set_cons_zero,List.set_cons_succ];refine wpAnyH_take (i:=1) (v:=?v2) rfl (by kernel_rfl) (by kernel_rfl) (by kernel_rfl) (fun _ _ _ h=>h) (Or.inl ⟨by rfl,?hy2⟩) (by assumption) ?rest2
 case hy2=>(intro w hSw;(try dsimp only at hSw);go_simp;all_goals (with_reducible rfl))
 simp only[Act.put,List.getElem_toArray,List.getElem_cons_zero,List.getElem_cons_succ,List.setIfInBounds_toArray,List.set_cons_zero,List.set_cons_succ];refine wpAnyH_take (i:=2) (v:=?v3) rfl (by kernel_rfl) (by kernel_rfl) (by kernel_rfl) (fun _ _ _ h=>h) (Or.inl ⟨by rfl,?hy3⟩) (by assumption) ?rest3
 case hy3=>(intro w hSw;(try dsimp only at hSw);obtain⟨z1,z2,z3,z4⟩:=hSw;go_simp;all_goals (with_reducible rfl))
 simp only[Act.put,List.getElem_toArray,List.getElem_cons_zero,List.getElem_cons_succ,List.setIfInBounds_toArray,List.set_cons_zero,List.set_cons_succ];refine wpAnyH_take (i:=3) (v:=?v4) rfl (by kernel_rfl) (by kernel_rfl) (by kernel_rfl) (fun _ _ _ h=>h) (Or.inl ⟨by rfl,?hy4⟩) (by assumption) ?rest4
 case hy4=>(intro w hSw;(try dsimp only at hSw);go_simp;all_goals (with_reducible rfl))
 simp only[Act.put,List.getElem_toArray,List.getElem_cons_zero,List.getElem_cons_succ,List.setIfInBounds_toArray,List.set_cons_zero,List.set_cons_succ];refine wpAnyH_take (i:=4) (v:=?v5) rfl (by kernel_rfl) (by kernel_rfl) (by kernel_rfl) (fun _ _ _ h=>h) (Or.inl ⟨by rfl,?hy5⟩) (by assumption) ?rest5
 case hy5=>(intro w hSw;(try dsimp only at hSw);go_simp;all_goals (with_reducible rfl))
 simp only[Act.put,List.getElem_toArray,List.getElem_cons_zero,List.getElem_cons_succ,List.setIfInBounds_toArray,List.set_cons_zero,List.set_cons_succ];refine wpAnyH_take (i:=5) (v:=?v6) rfl (by kernel_rfl) (by kernel_rfl) (by kernel_rfl) (fun _ _ _ h=>h) (Or.inl ⟨by rfl,?hy6⟩) (by assumption) ?rest6
 case hy6=>(intro w hSw;(try dsimp only at hSw);go_simp;all_goals (with_reducible rfl))
 simp only[Act.put,List.getElem_toArray,List.getElem_cons_zero,List.getElem_cons_succ,List.setIfInBounds_toArray,List.set_cons_zero,List.set_cons_succ];refine wpAnyH_take (i:=6) (v:=?v7) rfl (by kernel_rfl) (by kernel_rfl) (by kernel_rfl) (fun _ _ _ h=>h) (Or.inl ⟨by rfl,?hy7⟩) (by assumption) ?rest7
 case hy7=>(intro w hSw;(try dsimp only at hSw);go_simp;all_goals (with_reducible rfl))
 simp only[Act.put,List.getElem_toArray,List.getElem_cons_zero,List.getElem_cons_succ,List.setIfInBounds_toArray,List.set_cons_zero,List.set_cons_succ];refine wpAnyH_take (i:=7) (v:=?v8) rfl (by kernel_rfl) (by kernel_rfl) (by kernel_rfl) (fun _ _ _ h=>h) (Or.inl ⟨by rfl,?hy8⟩) (by assumption) ?rest8
 case hy8=>(intro w hSw;(try dsimp only at hSw);obtain⟨z1,z2,z3,z4⟩:=hSw;go_simp;all_goals (with_reducible rfl))
 simp only[Act.put,List.getElem_toArray,List.getElem_cons_zero,List.getElem_cons_succ,List.setIfInBounds_toArray,List.set_cons_zero,List.set_cons_succ];refine wpAnyH_take (i:=8) (v:=?v9) rfl (by kernel_rfl) (by kernel_rfl) (by kernel_rfl) (fun _ _ _ h=>h) (Or.inl ⟨by rfl,?hy9⟩) (by assumption) ?rest9
 case hy9=>(intro w hSw;(try dsimp only at hSw);go_simp;all_goals (with_reducible rfl))
 simp only[Act.put,List.getElem_toArray,List.getElem_cons_zero,List.getElem_cons_succ,List.setIfInBounds_toArray,List.set_cons_zero,List.set_cons_succ];refine wpAnyH_take (i:=9) (v:=?v10) rfl (by kernel_rfl) (by kernel_rfl) (by kernel_rfl) (fun _ _ _ h=>h) (Or.inl ⟨by rfl,?hy10⟩) (by assumption) ?rest10
 case hy10=>(intro w hSw;(try dsimp only at hSw);go_simp;all_goals (with_reducible rfl))
 simp only[Act.put,List.getElem_toArray,List.getElem_cons_zero,List.getElem_cons_succ,List.setIfInBounds_toArray,List.set_cons_zero,List.set_cons_succ];refine wpAnyH_take (i:=10) (v:=?v11) rfl (by kernel_rfl) (by kernel_rfl) (by kernel_rfl) (fun _ _ _ h=>h) (Or.inl ⟨by rfl,?hy11⟩) (by assumption) ?rest11
 case hy11=>(intro w hSw;(try dsimp only at hSw);go_simp;all_goals (with_reducible rfl))
 simp only[Act.put,List.getElem_toArray,List.getElem_cons_zero,List.getElem_cons_succ,List.setIfInBounds_toArray,List.set_cons_zero,List.set_cons_succ];refine wpAnyH_take (i:=11) (v:=?v12) rfl (by kernel_rfl) (by kernel_rfl) (by kernel_rfl) (fun _ _ _ h=>h) (Or.inl ⟨by rfl,?hy12⟩) (by assumption) ?rest12
 case hy12=>(intro w hSw;(try dsimp only at hSw);go_simp;all_goals (with_reducible rfl))
 simp only[Act.put,List.getElem_toArray,List.getElem_cons_zero,List.getElem_cons_succ,List.setIfInBounds_toArray,List.set_cons_zero,List.set_cons_succ];refine wpAnyH_take (i:=12) (v:=?v13) rfl (by kernel_rfl) (by kernel_rfl) (by kernel_rfl) (fun _ _ _ h=>h) (Or.inl ⟨by rfl,?hy13⟩) (by assumption) ?rest13
 case hy13=>(intro w hSw;(try dsimp only at hSw);obtain⟨z1,z2,z3,z4⟩:=hSw;go_simp;all_goals (with_reducible rfl))
 simp only[Act.put,List.getElem_toArray,List.getElem_cons_zero,List.getElem_cons_succ,List.setIfInBounds_toArray,List.set_cons_zero,List.set_cons_succ];refine wpAnyH_take (i:=13) (v:=?v14) rfl (by kernel_rfl) (by kernel_rfl) (by kernel_rfl) (fun _ _ _ h=>h) (Or.inl ⟨by rfl,?hy14⟩) (by assumption) ?rest14
 case hy14=>(intro w hSw;(try dsimp only at hSw);go_simp;all_goals (with_reducible rfl))
 simp only[Act.put,List.getElem_toArray,List.getElem_cons_zero,List.getElem_cons_succ,List.setIfInBounds_toArray,List.set_cons_zero,List.set_cons_succ];refine wpAnyH_take (i:=14) (v:=?v15) rfl (by kernel_rfl) (by kernel_rfl) (by kernel_rfl) (fun _ _ _ h=>h) (Or.inl ⟨by rfl,?hy15⟩) (by assumption) ?rest15
 case hy15=>(intro w hSw;(try dsimp only at hSw);go_simp;all_goals (with_reducible rfl))
 simp only[Act.put,List.getElem_toArray,List.getElem_cons_zero,List.getElem_cons_succ,List.setIfInBounds_toArray,List.set_cons_zero,List.set_cons_succ];refine wpAnyH_take (i:=15) (v:=?v16) rfl (by kernel_rfl) (by kernel_rfl) (by kernel_rfl) (fun _ _ _ h=>h) (Or.inl ⟨by rfl,?hy16⟩) (by assumption) ?rest16
 case hy16=>(intro w hSw;(try dsimp only at hSw);go_simp;all_goals (with_reducible rfl))
 simp only[Act.put,List.getElem_toArray,List.getElem_cons_zero,List.getElem_cons_succ,List.setIfInBounds_toArray,List.set_cons_zero,List.set_cons_succ];refine wpAnyH_take (i:=16) (v:=?v17) rfl (by kernel_rfl) (by kernel_rfl) (by kernel_rfl) (fun _ _ _ h=>h) (Or.inl ⟨by rfl,?hy17⟩) (by assumption) ?rest17
 case hy17=>(intro w hSw;(try dsimp only at hSw);go_simp;all_goals (with_reducible rfl))
 simp only[Act.put,List.getElem_toArray,List.getElem_cons_zero,List.getElem_cons_succ,List.setIfInBounds_toArray,List.set_cons_zero,List.set_cons_succ];refine wpAnyH_take (i:=17) (v:=?v18) rfl (by kernel_rfl) (by kernel_rfl) (by kernel_rfl) (fun _ _ _ h=>h) (Or.inl ⟨by rfl,?hy18⟩) (by assumption) ?rest18
 case hy18=>(intro w hSw;(try dsimp only at hSw);obtain⟨z1,z2,z3,z4⟩:=hSw;go_simp;all_goals (with_reducible rfl))
 simp only[Act.put,List.getElem_toArray,List.getElem_cons_zero,List.getElem_cons_succ,List.setIfInBounds_toArray,List.set_cons_zero,List.set_cons_succ];refine wpAnyH_take (i:=18) (v:=?v19) rfl (by kernel_rfl) (by kernel_rfl) (by kernel_rfl) (fun _ _ _ h=>h) (Or.inl ⟨by rfl,?hy19⟩) (by assumption) ?rest19
 case hy19=>(intro w hSw;(try dsimp only at hSw);go_simp;all_goals (with_reducible rfl))
 simp only[Act.put,List.getElem_toArray,List.getElem_cons_zero,List.getElem_cons_succ,List.setIfInBounds_toArray,List.set_cons_zero,List.set_cons_succ];refine wpAnyH_take (i:=19) (v:=?v20) rfl (by kernel_rfl) (by kernel_rfl) (by kernel_rfl) (fun _ _ _ h=>h) (Or.inl ⟨by rfl,?hy20⟩) (by assumption) ?rest20
 case hy20=>(intro w hSw;(try dsimp only at hSw);go_simp;all_goals (with_reducible rfl))
 simp only[Act.put,List.getElem_toArray,List.getElem_cons_zero,List.getElem_cons_succ,List.setIfInBounds_toArray,List.set_cons_zero,List.set_cons_succ];refine wpAnyH_take (i:=20) (v:=?v21) rfl (by kernel_rfl) (by kernel_rfl) (by kernel_rfl) (fun _ _ _ h=>h) (Or.inl ⟨by rfl,?hy21⟩) (by assumption) ?rest21
 case hy21=>(intro w hSw;(try dsimp only at hSw);go_simp;all_goals (with_reducible rfl))
 simp only[Act.put,List.getElem_toArray,List.getElem_cons_zero,List.getElem_cons_succ,List.setIfInBounds_toArray,List.set_cons_zero,List.set_cons_succ];refine wpAnyH_ready (rs:=[21]) (by kernel_rfl) (by simp) ?_;refine AllReadyH.cons rfl (fun K hK=>?_) AllReadyH.nil
 go_simp
 refine hK.out _ _ HKP.out (fun hHeld2=>?_);clear hK K;refine wpAnyH_done (by kernel_rfl) ?_ _;go_wp2;exact bodyPost_ret (v:=cdV ⟨some ⟨ga0,0,none⟩,ca0,some ⟨ga1,0,none⟩,ca1,some ⟨ga2,0,none⟩,ca2,some ⟨ga3,0,none⟩,ca3⟩ c) (by simp[results,Tryd.results10,go_sem,u0,u1,u2,u3]) rfl ⟨_,rfl,HL.out,by rw[<-HG.out];exact HBE.out⟩
end Go.Proofs.YtpdfdhkdfkhfkaaDoor
