import Derived.Test.YtdhhnhjolmnkjabDoorRdaB
set_option maxRecDepth 100000
set_option maxHeartbeats 8000000
namespace Go.Proofs.YtdhhnhjolmnkjabDoor
open Go.ChangeShapes Go.WideShapes Go.ChangeAt Go.RowKit
set_option linter.unusedVariables false
set_option linter.unusedSimpArgs false
theorem Step.newB {I:Nat->Prop}{w w':World}(o:Nat->Nat)(i:Nat)(B:Below w.heap.size w w'):Step I w o w' (newLab w o i):=⟨B.os,B.tape,B.output,B.size,fun k hk=>newLab_old hk,fun k hk _=>B.block k hk⟩
def mrkR (l:List UInt8):Option (List UInt8 × List UInt8):=(takR 3 l).bind fun m=>if m.1=[73,67,49] then some m else none
theorem mrk_yes (st:St)(h:val [] (takR 3) st=[73,67,49]):nxt mrkR st=nxt (takR 3) st:=by
 cases st with
 | none=>rfl
 | some l =>
  cases e:takR 3 l with
  | none=>rw[val_no e] at h;cases h
  | some m =>
   obtain⟨m,r⟩:=m;rw[val_ok e] at h
   have:mrkR l=some (m,r):=by simp[mrkR,e,h]
   rw[nxt_ok e,nxt_ok this]
theorem mrk_no (st:St)(h:¬val [] (takR 3) st=[73,67,49]):nxt mrkR st=none:=by
 cases st with
 | none=>rfl
 | some l =>
  cases e:takR 3 l with
  | none=>exact nxt_no (by simp[mrkR,e])
  | some m =>
   obtain⟨m,r⟩:=m;rw[val_ok e] at h;exact nxt_no (by simp[mrkR,e,h])
theorem chain4 {α β γ δ ε:Type}{A:List UInt8->Option (α × List UInt8)}{B:List UInt8->Option (β × List UInt8)}{C:List UInt8->Option (γ × List UInt8)}{D:List UInt8->Option (δ × List UInt8)}(mk:α->β->γ->δ->ε){s2 s3 s4 s5 s6:St}{a:α}{b:β}{c:γ}{d:δ}
  (h1:s2.bind A=s3.map (fun l=>(a,l))) (h2:s3.bind B=s4.map (fun l=>(b,l))) (h3:s4.bind C=s5.map (fun l=>(c,l))) (h4:s5.bind D=s6.map (fun l=>(d,l))) :
  ((s2.bind A).bind fun x=>(B x.2).bind fun y=>(C y.2).bind fun z=>(D z.2).map fun u=>(mk x.1 y.1 z.1 u.1,u.2))=s6.map (fun l=>(mk a b c d,l)):=by
 rw[h1];cases s3 with
 | none =>
  have e4:s4=none:=by cases s4<;>simp_all
  subst e4;have e5:s5=none:=by cases s5<;>simp_all
  subst e5;have e6:s6=none:=by cases s6<;>simp_all
  subst e6;rfl
 | some l3 =>
  simp only[Option.bind_some] at h2;simp only[Option.map_some,Option.bind_some,h2];cases s4 with
  | none =>
   have e5:s5=none:=by cases s5<;>simp_all
   subst e5;have e6:s6=none:=by cases s6<;>simp_all
   subst e6;rfl
  | some l4 =>
   simp only[Option.bind_some] at h3;simp only[Option.map_some,Option.bind_some,h3];cases s5 with
   | none =>
    have e6:s6=none:=by cases s6<;>simp_all
    subst e6;rfl
   | some l5 =>
    simp only[Option.bind_some] at h4;simp only[Option.map_some,Option.bind_some,h4];cases s6<;>rfl
abbrev nil4:Array Value:=#[.slice none 0 0,.slice none 0 0,.slice none 0 0,.slice none 0 0]
structure CdR (w:World)(o:Nat->Nat)(p:Pl)(c:Cd):Prop where
 ws:Row w o 3 33 1 (.slice p.aw c.ws.length p.cw) c.ws.length (wsV c.ws)
 cs:Row w o 4 3 1 (.slice p.ac c.cs.length p.cc) c.cs.length (isV c.cs)
 ns:Row w o 5 9 1 (.slice p.an c.ns.length p.cn) c.ns.length (nsV c.ns)
 ks:Row w o 6 3 1 (.slice p.ak c.ks.length p.ck) c.ks.length (isV c.ks)
 lw:c.ws.length<=32768
 lc:c.cs.length<=32768
 ln:c.ns.length<=2000
 lk:c.ks.length<=256
abbrev Ic:Nat->Prop:=fun k=>2<=k/\k<=9
def CodeOut (w:World)(o:Nat->Nat)(rb sb:Nat)(st:St)(z:Ending)(w':World):Prop :=
 ∃p c,z=.returned (cdV p c)/\∃(o':Nat->Nat) (st':St),CdR w' o' p c/\RdW w' o' rb sb st'/\Step Ic w o w' o'/\st.bind (rdC 12 3)=st'.map (fun l=>(c,l))
theorem cells4 {w:World}{b:Nat}{x0 x1 x2 x3:Value}{t:TypeId}(h:w.heap[b]?=some (.cells #[x0,x1,x2,x3] t)):(w.cell? ⟨b,0,none⟩=some x0/\w.cell? ⟨b,1,none⟩=some x1/\w.cell? ⟨b,2,none⟩=some x2/\w.cell? ⟨b,3,none⟩=some x3)/\∀ j,w.frozen? ⟨b,j,none⟩=false:=by
 refine⟨⟨?_,?_,?_,?_⟩,fun j=>?_⟩<;>simp[World.cell?,World.frozen?,h]
theorem set4c {w:World}{b:Nat}{x0 x1 x2 x3:Value}{t:TypeId}(y0 y1 y2 y3:Value)(h:w.heap[b]?=some (.cells #[x0,x1,x2,x3] t)):((((w.setCell ⟨b,0,none⟩ y0).setCell ⟨b,1,none⟩ y1).setCell ⟨b,2,none⟩ y2).setCell ⟨b,3,none⟩ y3).heap[b]?=some (.cells #[y0,y1,y2,y3] t) :=
 heap_setCell_same _ b 3 _ _ _ (heap_setCell_same _ b 2 _ _ _ (heap_setCell_same _ b 1 _ _ _ (heap_setCell_same w b 0 _ _ _ h)))
theorem code_c (w:World)(o:Nat->Nat)(rb sb:Nat)(hne:sb≠rb)(st:St)(h:RdW w o rb sb st) :
  Calls Tryd.prog 19 #[.pointer (some ⟨rb,0,none⟩)] w (CodeOut w o rb sb st):=by
 obtain⟨w1,hw1⟩:∃w1,w1=w.alloc (.cells nil4 28):=⟨_,rfl⟩
 obtain⟨g1,hg1⟩:∃g1,g1=w.heap.size:=⟨_,rfl⟩
 have G1:Blk w1 (newLab w o 9) 9 g1 (.cells nil4 28):=by rw[hw1,hg1];exact⟨heap_alloc_new _ _,newLab_new (Nat.le_refl _)⟩
 have S1:Step Ic w o w1 (newLab w o 9):=Step.newB o 9 (by rw[hw1];exact b1 _ _);have D1:RdW w1 (newLab w o 9) rb sb st:=h.step (Step.newB (I:=fun _=>False) o 9 (by rw[hw1];exact b1 _ _)) (fun h=>h) (fun h=>h);generalize newLab w o 9=o1 at *;have HG1:=Lib.hid hg1;clear hg1 h;have HT:=rtake_c 3 (by omega) w1 o1 rb sb hne st D1;have HY:=mrk_yes st;have HN:=mrk_no st;generalize val [] (takR 3) st=pc at *;generalize nxt (takR 3) st=st1 at *;have HC:=rdC_st 12 3 st;have HC':Hid (st.bind (rdC 12 3)=((nxt mrkR st).bind (rdL 32768 wrdR)).bind fun a=>(rdL 32768 conR a.2).bind fun b=>(rdL 2000 (namR 12) b.2).bind fun c=>(rdL 256 (kndR 3) c.2).map fun d=>((⟨a.1,b.1,c.1,d.1⟩:Cd),d.2)):=HC;clear HC D1;generalize nxt mrkR st=st2 at *;go_enter Tryd.func19,Tryd.ntmps19;go_wp2_with fail;rw[<-hw1,<-HG1.out];clear hw1;refine HT.mono ?_;rintro e w2 ⟨v2,rfl,hbt,D2,S2⟩;have hcv:=hbt.text;have S2':Step Ic w o w2 o1:=S1.trans (S2.mono (fun k hk=>by subst hk;decide));have G2:=G1.step S2 (by decide);clear HT S1 G1 S2 hbt
 go_upto_if 7 with fail
 go_cut [] (fun wx=>RdW wx o1 rb sb st2/\Step Ic w o wx o1/\Blk wx o1 9 g1 (.cells nil4 28))
 case first =>
  by_cases hp:pc=[73,67,49]
  ·have e:=HY hp;subst e;subst hp;clear HY HN;have HZ:Hid (RdW w2 o1 rb sb st2/\Step Ic w o w2 o1/\Blk w2 o1 9 g1 (.cells nil4 28)):=⟨D2,S2',G2⟩
   clear D2 S2' G2;go_wp2;go_meet;exact HZ.out
  ·have e:=HN hp;subst e;have HU:=giveUp_c w2 o1 rb sb st1 D2;have hpb:(pc==[73,67,49])=false:=by simpa using hp
   have hpc:(!(pc==[73,67,49]))=true:=by rw[hpb];rfl
   clear hpb;clear HY HN;go_wp2_with (go_at_call 32;refine HU.mono ?_;rintro e w3 ⟨rfl,D3,S3⟩)
   all_goals first|(exfalso;rename_i hx;rw[hpc] at hx;cases hx;done)|(go_meet;exact⟨D3,S2'.trans (S3.mono (fun k hk=>by subst hk;decide)),G2.step S3 (by decide)⟩)
 case rest =>
  obtain⟨D3,S3,G3⟩:=hcut;clear HY HN D2 S2' G2 hcv;obtain⟨w3,hw3⟩:∃w3,w3=wc.alloc (.cells nil4 28):=⟨_,rfl⟩
  obtain⟨g3,hg3⟩:∃g3,g3=wc.heap.size:=⟨_,rfl⟩
  have K3:Blk w3 (newLab wc o1 9) 9 g3 (.cells nil4 28):=by rw[hw3,hg3];exact⟨heap_alloc_new _ _,newLab_new (Nat.le_refl _)⟩
  have SN:∀ {I:Nat->Prop},Step I wc o1 w3 (newLab wc o1 9):=fun {I}=>Step.newB o1 9 (by rw[hw3];exact b1 _ _);have S4:Step Ic w o w3 (newLab wc o1 9):=S3.trans SN;have D4:RdW w3 (newLab wc o1 9) rb sb st2:=D3.step (SN (I:=fun _=>False)) (fun h=>h) (fun h=>h);have G4:Blk w3 (newLab wc o1 9) 9 g1 (.cells nil4 28):=G3.step (SN (I:=fun _=>False)) (fun h=>h);have hgg:g1≠g3:=by have:=G3.lt;omega
  generalize newLab wc o1 9=o4 at *;have HG3:=Lib.hid hg3;clear hg3 D3 S3 G3 SN;have HL:=list_w 32768 (by omega) 3 (by omega) w3 o4 rb sb hne st2 D4;go_wp2_with fail;rw[<-hw3,<-HG3.out];clear hw3;refine HL.mono ?_;rintro e wd5 ⟨v5,rfl,ws,o5,st5,R5,D5,S5,E5,L5⟩;obtain⟨aw,cw,rfl⟩:=R5.form;have K5:=K3.step S5 (by decide);have G5:=G4.step S5 (by decide);have T5:=S4.trans (S5.mono (J:=Ic) (fun k hk=>by rcases hk with rfl|rfl<;>decide));clear HL D4 K3 G4 S4 S5;obtain⟨⟨k0,k1,k2,k3⟩,kf⟩:=cells4 K5.1;have kf0:=kf 0;have SS:∀ {I:Nat->Prop},I 9->Step I wd5 o5 (wd5.setCell ⟨g3,0,none⟩ (.slice aw ws.length cw)) o5:=fun {I} h9=>(Step.refl I wd5 o5).setCell ⟨g3,0,none⟩ _ (by rw[K5.2];exact h9);have KK5:Blk (wd5.setCell ⟨g3,0,none⟩ (.slice aw ws.length cw)) o5 9 g3 (.cells #[.slice aw ws.length cw,.slice none 0 0,.slice none 0 0,.slice none 0 0] 28):=⟨heap_setCell_same _ _ 0 _ _ _ K5.1,K5.2⟩
  have GG5:Blk (wd5.setCell ⟨g3,0,none⟩ (.slice aw ws.length cw)) o5 9 g1 (.cells nil4 28):=⟨(heap_setCell_other _ _ _ _ hgg).trans G5.1,G5.2⟩
  have DD5:=D5.step (SS (I:=fun k=>k=9) rfl) (by decide) (by decide)
  replace R5:=R5.step (SS (I:=fun k=>k=9) rfl) (by decide)
  have TT5:=T5.trans (SS (I:=Ic) (by decide));clear K5 G5 D5 T5 SS kf;have e5:=Lib.hid E5;clear E5;go_upto_region 5 with fail;generalize wd5.setCell ⟨g3,0,none⟩ (.slice aw ws.length cw)=w5 at *;clear kf0 k0 k1 k2 k3;have HL:=list_c 32768 (by omega) 4 (by omega) w5 o5 rb sb hne st5 DD5;go_wp2_with fail;refine HL.mono ?_;rintro e wd6 ⟨v6,rfl,cs,o6,st6,R6,D6,S6,E6,L6⟩;obtain⟨ac,cc,rfl⟩:=R6.form;have K6:=KK5.step S6 (by decide);have G6:=GG5.step S6 (by decide)
  replace R5:=R5.step S6 (by decide)
  have T6:=TT5.trans (S6.mono (J:=Ic) (fun k hk=>by rcases hk with rfl|rfl<;>decide));clear HL DD5 KK5 GG5 TT5 S6;obtain⟨⟨k0,k1,k2,k3⟩,kf⟩:=cells4 K6.1;have kf1:=kf 1;have SS:∀ {I:Nat->Prop},I 9->Step I wd6 o6 (wd6.setCell ⟨g3,1,none⟩ (.slice ac cs.length cc)) o6:=fun {I} h9=>(Step.refl I wd6 o6).setCell ⟨g3,1,none⟩ _ (by rw[K6.2];exact h9);have KK6:Blk (wd6.setCell ⟨g3,1,none⟩ (.slice ac cs.length cc)) o6 9 g3 (.cells #[.slice aw ws.length cw,.slice ac cs.length cc,.slice none 0 0,.slice none 0 0] 28):=⟨heap_setCell_same _ _ 1 _ _ _ K6.1,K6.2⟩
  have GG6:Blk (wd6.setCell ⟨g3,1,none⟩ (.slice ac cs.length cc)) o6 9 g1 (.cells nil4 28):=⟨(heap_setCell_other _ _ _ _ hgg).trans G6.1,G6.2⟩
  have DD6:=D6.step (SS (I:=fun k=>k=9) rfl) (by decide) (by decide)
  replace R6:=R6.step (SS (I:=fun k=>k=9) rfl) (by decide)
  replace R5:=R5.step (SS (I:=fun k=>k=9) rfl) (by decide)
  have TT6:=T6.trans (SS (I:=Ic) (by decide));clear K6 G6 D6 T6 SS kf;have e6:=Lib.hid E6;clear E6;go_upto_region 6 with fail;generalize wd6.setCell ⟨g3,1,none⟩ (.slice ac cs.length cc)=w6 at *;clear kf1 k0 k1 k2 k3;have HL:=list_n 2000 (by omega) 5 (by omega) w6 o6 rb sb hne st6 DD6;go_wp2_with fail;refine HL.mono ?_;rintro e wd7 ⟨v7,rfl,ns,o7,st7,R7,D7,S7,E7,L7⟩;obtain⟨an,cn,rfl⟩:=R7.form;have K7:=KK6.step S7 (by decide);have G7:=GG6.step S7 (by decide)
  replace R5:=R5.step S7 (by decide)
  replace R6:=R6.step S7 (by decide)
  have T7:=TT6.trans (S7.mono (J:=Ic) (fun k hk=>by rcases hk with rfl|rfl<;>decide));clear HL DD6 KK6 GG6 TT6 S7;obtain⟨⟨k0,k1,k2,k3⟩,kf⟩:=cells4 K7.1;have kf2:=kf 2;have SS:∀ {I:Nat->Prop},I 9->Step I wd7 o7 (wd7.setCell ⟨g3,2,none⟩ (.slice an ns.length cn)) o7:=fun {I} h9=>(Step.refl I wd7 o7).setCell ⟨g3,2,none⟩ _ (by rw[K7.2];exact h9);have KK7:Blk (wd7.setCell ⟨g3,2,none⟩ (.slice an ns.length cn)) o7 9 g3 (.cells #[.slice aw ws.length cw,.slice ac cs.length cc,.slice an ns.length cn,.slice none 0 0] 28):=⟨heap_setCell_same _ _ 2 _ _ _ K7.1,K7.2⟩
  have GG7:Blk (wd7.setCell ⟨g3,2,none⟩ (.slice an ns.length cn)) o7 9 g1 (.cells nil4 28):=⟨(heap_setCell_other _ _ _ _ hgg).trans G7.1,G7.2⟩
  have DD7:=D7.step (SS (I:=fun k=>k=9) rfl) (by decide) (by decide)
  replace R7:=R7.step (SS (I:=fun k=>k=9) rfl) (by decide)
  replace R5:=R5.step (SS (I:=fun k=>k=9) rfl) (by decide)
  replace R6:=R6.step (SS (I:=fun k=>k=9) rfl) (by decide)
  have TT7:=T7.trans (SS (I:=Ic) (by decide));clear K7 G7 D7 T7 SS kf;have e7:=Lib.hid E7;clear E7;go_upto_region 7 with fail;generalize wd7.setCell ⟨g3,2,none⟩ (.slice an ns.length cn)=w7 at *;clear kf2 k0 k1 k2 k3;have HL:=list_k 256 (by omega) 6 (by omega) w7 o7 rb sb hne st7 DD7;go_wp2_with fail;refine HL.mono ?_;rintro e wd8 ⟨v8,rfl,ks,o8,st8,R8,D8,S8,E8,L8⟩;obtain⟨ak,ck,rfl⟩:=R8.form;have K8:=KK7.step S8 (by decide);have G8:=GG7.step S8 (by decide)
  replace R5:=R5.step S8 (by decide)
  replace R6:=R6.step S8 (by decide)
  replace R7:=R7.step S8 (by decide)
  have T8:=TT7.trans (S8.mono (J:=Ic) (fun k hk=>by rcases hk with rfl|rfl<;>decide));clear HL DD7 KK7 GG7 TT7 S8;obtain⟨⟨k0,k1,k2,k3⟩,kf⟩:=cells4 K8.1;have kf3:=kf 3;have SS:∀ {I:Nat->Prop},I 9->Step I wd8 o8 (wd8.setCell ⟨g3,3,none⟩ (.slice ak ks.length ck)) o8:=fun {I} h9=>(Step.refl I wd8 o8).setCell ⟨g3,3,none⟩ _ (by rw[K8.2];exact h9);have KK8:Blk (wd8.setCell ⟨g3,3,none⟩ (.slice ak ks.length ck)) o8 9 g3 (.cells #[.slice aw ws.length cw,.slice ac cs.length cc,.slice an ns.length cn,.slice ak ks.length ck] 28):=⟨heap_setCell_same _ _ 3 _ _ _ K8.1,K8.2⟩
  have GG8:Blk (wd8.setCell ⟨g3,3,none⟩ (.slice ak ks.length ck)) o8 9 g1 (.cells nil4 28):=⟨(heap_setCell_other _ _ _ _ hgg).trans G8.1,G8.2⟩
  have DD8:=D8.step (SS (I:=fun k=>k=9) rfl) (by decide) (by decide)
  replace R8:=R8.step (SS (I:=fun k=>k=9) rfl) (by decide)
  replace R5:=R5.step (SS (I:=fun k=>k=9) rfl) (by decide)
  replace R6:=R6.step (SS (I:=fun k=>k=9) rfl) (by decide)
  replace R7:=R7.step (SS (I:=fun k=>k=9) rfl) (by decide)
  have TT8:=T8.trans (SS (I:=Ic) (by decide));clear K8 G8 D8 T8 SS kf;have e8:=Lib.hid E8;clear E8;go_upto_region 8 with fail;generalize wd8.setCell ⟨g3,3,none⟩ (.slice ak ks.length ck)=w8 at *;clear kf3 k0 k1 k2 k3;obtain⟨⟨k0,k1,k2,k3⟩,-⟩:=cells4 KK8.1;obtain⟨⟨c0,c1,c2,c3⟩,gf⟩:=cells4 GG8.1;have gf0:=gf 0;have gf1:=gf 1;have gf2:=gf 2;have gf3:=gf 3;have ZE:=set4c (.slice aw ws.length cw) (.slice ac cs.length cc) (.slice an ns.length cn) (.slice ak ks.length ck) GG8.1;have SE:∀ {I:Nat->Prop},I 9->Step I w8 o8 ((((w8.setCell ⟨g1,0,none⟩ (.slice aw ws.length cw)).setCell ⟨g1,1,none⟩ (.slice ac cs.length cc)).setCell ⟨g1,2,none⟩ (.slice an ns.length cn)).setCell ⟨g1,3,none⟩ (.slice ak ks.length ck)) o8:=fun {I} h9=>by
   have hI:I (o8 g1):=by rw[GG8.2];exact h9
   exact((((Step.refl I w8 o8).setCell ⟨g1,0,none⟩ _ hI).setCell ⟨g1,1,none⟩ _ hI).setCell ⟨g1,2,none⟩ _ hI).setCell ⟨g1,3,none⟩ _ hI
  have S9:=SE (I:=fun k=>k=9) rfl;have DE:=DD8.step S9 (by decide) (by decide);have CE:CdR ((((w8.setCell ⟨g1,0,none⟩ (.slice aw ws.length cw)).setCell ⟨g1,1,none⟩ (.slice ac cs.length cc)).setCell ⟨g1,2,none⟩ (.slice an ns.length cn)).setCell ⟨g1,3,none⟩ (.slice ak ks.length ck)) o8 ⟨aw,cw,ac,cc,an,cn,ak,ck⟩ ⟨ws,cs,ns,ks⟩ :=
   ⟨R5.step S9 (by decide),R6.step S9 (by decide),R7.step S9 (by decide),R8.step S9 (by decide),L5,L6,L7,L8⟩
  have TE:=TT8.trans (SE (I:=Ic) (by decide));have EE:st.bind (rdC 12 3)=st8.map (fun l=>((⟨ws,cs,ns,ks⟩:Cd),l)):=by rw[HC'.out];exact chain4 (fun a b c d=>(⟨a,b,c,d⟩:Cd)) e5.out e6.out e7.out e8.out
  obtain⟨⟨u0,u1,u2,u3⟩,-⟩:=cells4 ZE;have HO:Hid (∃(o':Nat->Nat) (st':St),CdR ((((w8.setCell ⟨g1,0,none⟩ (.slice aw ws.length cw)).setCell ⟨g1,1,none⟩ (.slice ac cs.length cc)).setCell ⟨g1,2,none⟩ (.slice an ns.length cn)).setCell ⟨g1,3,none⟩ (.slice ak ks.length ck)) o' ⟨aw,cw,ac,cc,an,cn,ak,ck⟩ ⟨ws,cs,ns,ks⟩/\RdW ((((w8.setCell ⟨g1,0,none⟩ (.slice aw ws.length cw)).setCell ⟨g1,1,none⟩ (.slice ac cs.length cc)).setCell ⟨g1,2,none⟩ (.slice an ns.length cn)).setCell ⟨g1,3,none⟩ (.slice ak ks.length ck)) o' rb sb st'/\Step Ic w o ((((w8.setCell ⟨g1,0,none⟩ (.slice aw ws.length cw)).setCell ⟨g1,1,none⟩ (.slice ac cs.length cc)).setCell ⟨g1,2,none⟩ (.slice an ns.length cn)).setCell ⟨g1,3,none⟩ (.slice ak ks.length ck)) o'/\st.bind (rdC 12 3)=st'.map (fun l=>((⟨ws,cs,ns,ks⟩:Cd),l))):=⟨o8,st8,CE,DE,TE,EE⟩
  clear ZE SE S9 DE CE TE EE R5 R6 R7 R8 DD8 TT8 e5 e6 e7 e8 gf KK8 GG8 HC';go_wp2;exact bodyPost_ret (v:=cdV ⟨aw,cw,ac,cc,an,cn,ak,ck⟩ ⟨ws,cs,ns,ks⟩) (by simp[results,Tryd.results19,go_sem,u0,u1,u2,u3]) rfl ⟨_,_,rfl,HO.out⟩
theorem rdN_each {α:Type}{one:List UInt8->Option (α × List UInt8)}{Q:α->Prop}(hq:∀ l x r,one l=some (x,r)->Q x)(n:Nat):∀ l xs r,rdN one n l=some (xs,r)->∀ x ∈ xs,Q x:=by
 induction n with
 | zero=>intro l xs r h;simp[rdN] at h;obtain⟨rfl,rfl⟩:=h;simp
 | succ n ih =>
  intro l xs r h;rw[rdN] at h;cases h1:one l with
  | none=>rw[h1] at h;cases h
  | some x =>
   obtain⟨x,l1⟩:=x;rw[h1] at h;simp only[Option.bind_some] at h;cases h2:rdN one n l1 with
   | none=>rw[h2] at h;cases h
   | some y =>
    obtain⟨y,l2⟩:=y;rw[h2] at h;simp only[Option.bind_some,Option.some.injEq,Prod.mk.injEq] at h;obtain⟨rfl,rfl⟩:=h;intro z hz;rcases List.mem_cons.1 hz with rfl|hz
    ·exact hq _ _ _ h1
    ·exact ih _ _ _ h2 z hz
theorem rdL_each {α:Type}{one:List UInt8->Option (α × List UInt8)}{Q:α->Prop}(hq:∀ l x r,one l=some (x,r)->Q x){most:Nat}{l r:List UInt8}{xs:List α}(h:rdL most one l=some (xs,r)):∀ x ∈ xs,Q x:=by
 unfold rdL at h;cases hc:cntR most l with
 | none=>rw[hc] at h;cases h
 | some x=>rw[hc] at h;exact rdN_each hq _ _ _ _ h
theorem rdC_ok {mn mk:Nat}(hn:mn<=1000000)(hk:mk<=1000000){l r:List UInt8}{c:Cd}(h:rdC mn mk l=some (c,r)):c.Ok:=by
 unfold rdC at h;cases h0:takR 3 l with
 | none=>rw[h0] at h;cases h
 | some m =>
  obtain⟨m,l0⟩:=m;rw[h0] at h;simp only[Option.bind_some] at h;split at h
  ·cases h1:rdL 32768 wrdR l0 with
   | none=>rw[h1] at h;cases h
   | some a =>
    obtain⟨a,l1⟩:=a;rw[h1] at h;simp only[Option.bind_some] at h;cases h2:rdL 32768 conR l1 with
    | none=>rw[h2] at h;cases h
    | some b =>
     obtain⟨b,l2⟩:=b;rw[h2] at h;simp only[Option.bind_some] at h;cases h3:rdL 2000 (namR mn) l2 with
     | none=>rw[h3] at h;cases h
     | some n =>
      obtain⟨n,l3⟩:=n;rw[h3] at h;simp only[Option.bind_some] at h;cases h4:rdL 256 (kndR mk) l3 with
      | none=>rw[h4] at h;cases h
      | some d =>
       obtain⟨d,l4⟩:=d;rw[h4] at h;simp only[Option.map_some,Option.some.injEq,Prod.mk.injEq] at h;obtain⟨rfl,rfl⟩:=h;refine⟨rdL_each (Q:=fun u=>0<=u/\u<18446744073709551616) (fun l x r h=>?_) h1,rdL_each (Q:=fun u=>-9223372036854775808<=u/\u<=9223372036854775807) (fun l x r h=>?_) h2,rdL_each (Q:=fun u=>-9223372036854775808<=u/\u<=9223372036854775807) (fun l x r h=>?_) h4,rdL_each (Q:=fun s=>s.size<=maxLen) (fun l x r h=>?_) h3⟩
       ·unfold wrdR at h;cases hh:numR l with
        | none=>rw[hh] at h;cases h
        | some y=>rw[hh] at h;cases h;have:=(numR_back hh).2;first|omega|(dsimp only;omega)
       ·unfold conR at h;cases hh:numR l with
        | none=>rw[hh] at h;cases h
        | some y=>rw[hh] at h;cases h;have:=(numR_back hh).2;exact zgb_bd _ (by omega) (by omega)
       ·unfold kndR at h;cases hh:cntR mk l with
        | none=>rw[hh] at h;cases h
        | some y=>rw[hh] at h;cases h;have:=(cntR_back hh).2;first|omega|(dsimp only;omega)
       ·unfold namR at h;cases hh:cntR mn l with
        | none=>rw[hh] at h;cases h
        | some y =>
         rw[hh] at h;simp only[Option.bind_some,takR] at h;split at h
         ·have:=(cntR_back hh).2
          simp only[Option.map_some,Option.some.injEq,Prod.mk.injEq] at h;obtain⟨rfl,-⟩:=h;show (List.take y.1 y.2).toArray.size<=maxLen;unfold maxLen;simp;omega
         ·cases h
  ·cases h
theorem Row.lsv {w:World}{o:Nat->Nat}{i:Nat}{e:TypeId}{ao:Option Addr}{n cap:Nat}{xs:List Value}(h:Row w o i e 1 (.slice ao n cap) n xs):Lsv w ao xs:=by
 by_cases hn:0<n
 ·obtain⟨g,c,hv,-,-,-,hlt,hc,-⟩:=h.pos hn;simp only[Value.slice.injEq,true_and] at hv;refine .inr ⟨g,0,hv.1,hlt,fun j x hx=>?_⟩;have hl:=h.len;have hj:j<n*1:=by have:=(List.getElem?_eq_some_iff.1 hx).1;omega
  rw[Nat.zero_add,hc j hj];exact hx
 ·have hl:=h.len;exact .inl (List.eq_nil_of_length_eq_zero (by omega))
theorem CdR.cdw {w:World}{o:Nat->Nat}{p:Pl}{c:Cd}(h:CdR w o p c)(ho:c.Ok):CdW w p c:=by
 have h1:=h.lw;have h2:=h.lc;have h3:=h.ln;have h4:=h.lk;exact⟨ho,h.ws.lsv,h.cs.lsv,h.ns.lsv,h.ks.lsv,by omega,by omega,by omega,by omega⟩
theorem CdR.step {I:Nat->Prop}{w w':World}{o o':Nat->Nat}{p:Pl}{c:Cd}(h:CdR w o p c)(s:Step I w o w' o')(h3:¬I 3)(h4:¬I 4)(h5:¬I 5)(h6:¬I 6):CdR w' o' p c :=
 ⟨h.ws.step s h3,h.cs.step s h4,h.ns.step s h5,h.ks.step s h6,h.lw,h.lc,h.ln,h.lk⟩
def DecOut (s:List UInt8)(w:World)(z:Ending)(w':World):Prop :=
 Below w.heap.size w w'/\((∃p c,z=.returned (.tuple #[cdV p c,.int .i64 0])/\IsE s c/\∃o',(∀ k,k<w.heap.size->o' k=0)/\CdR w' o' p c)\/(z=.returned (.tuple #[.agg nil4,.int .i64 180])/\∀ c,¬IsE s c))
theorem bytes_cells (w:World)(s:ByteArray)(n:Nat)(t:TypeId)(fr:Nat × Nat):∀ j u,(byL s.data.toList)[j]?=some u->(w.alloc (.cells (bytesRow s n) t fr)).cell? ⟨w.heap.size,0+j,none⟩=some u:=by
 intro j u hj;have hl:j<s.data.toList.length:=by have:=(List.getElem?_eq_some_iff.1 hj).1;simpa [byL] using this
 have hh:=heap_alloc_new w (.cells (bytesRow s n) t fr);unfold World.cell?;rw[hh];simp only[Nat.zero_add];rw[bytesRow_at s n j (by simpa using hl)];simp[byL] at hj;obtain⟨x,hx,rfl⟩:=hj
 have:s.data[j]?=some x:=by simpa using hx
 rw[Array.getElem?_eq_some_iff] at this;obtain⟨h1,h2⟩:=this;rw[h2];rfl
theorem decode_c (s:ByteArray)(w:World)(hF:Fx w)(hs:s.size<=9223372036854775807) :
  Calls Tryd.prog 10 #[.string s] w (DecOut s.data.toList w):=by
 obtain⟨w1,hw1⟩:∃w1,w1=w.alloc (.cells nil4 28):=⟨_,rfl⟩
 obtain⟨g1,hg1⟩:∃g1,g1=w.heap.size:=⟨_,rfl⟩
 have B1:Below w.heap.size w w1:=by rw[hw1];exact b1 _ _
 have z1:w1.heap.size=g1+1:=by rw[hw1,hg1];simp
 have G1:w1.heap[g1]?=some (.cells nil4 28):=by rw[hw1,hg1];exact heap_alloc_new _ _
 have kc:=run_bytes_of_string (P:=Tryd.prog) w1 9 40 5 s Tryd.underlying9 Tryd.underlying40 Tryd.underlying5;have hcp1:=grownCap_ge w1 s.size 0 5;have hcp2:=grownCap_le_maxLen w1 s.size 0 5 (by unfold maxLen;omega);generalize grownCap w1 s.size 0 5=cap at *;rw[z1] at kc;obtain⟨w2,hw2⟩:∃w2,w2=w1.drew.alloc (.cells (bytesRow s cap) 5 ((bytesRow s cap).size,(bytesRow s cap).size+1)):=⟨_,rfl⟩
 rw[<-hw2] at kc;have B2:Below w1.heap.size w1 w2:=by rw[hw2];exact(Below.refl _ w1).drew.alloc (Nat.le_refl _) _
 have z2:w2.heap.size=g1+2:=by
  rw[hw2];show (w1.heap.push _).size=_;simp[z1]
 have c2:∀ j u,(byL s.data.toList)[j]?=some u->w2.cell? ⟨g1+1,0+j,none⟩=some u:=by
  have:=bytes_cells w1.drew s cap 5 ((bytesRow s cap).size,(bytesRow s cap).size+1)
  rw[<-hw2] at this;have e:w1.drew.heap.size=g1+1:=z1;rw[e] at this;exact this
 obtain⟨w3,hw3⟩:∃w3,w3=w2.alloc (.cells #[.slice (some ⟨g1+1,0,none⟩) s.size cap,.bool false] 52):=⟨_,rfl⟩
 have B3:Below w2.heap.size w2 w3:=by rw[hw3];exact b1 _ _
 have z3:w3.heap.size=g1+3:=by rw[hw3];simp[z2]
 obtain⟨o3,ho3⟩:∃o3:Nat->Nat,o3=fun k=>if k=g1+2 then 2 else 0:=⟨_,rfl⟩
 have hln:s.data.toList.length=s.size:=Array.length_toList;have D3:RdW w3 o3 (g1+2) (g1+1) (some s.data.toList):=by
  refine⟨by rw[ho3];simp,by omega,by omega,0,cap,by omega,by unfold maxLen at hcp2;omega,⟨?_,by rw[ho3];simp⟩,fun j u hj=>(B3.cell (p:=⟨g1+1,0+j,none⟩) (by rw[z2];show g1+1<g1+2;omega)).trans (c2 j u hj)⟩;rw[hw3,hln,<-z2];exact heap_alloc_new _ _
 have hol:∀ k,k<g1+2->o3 k=0:=fun k hk=>by rw[ho3];simp;omega
 have G3:w3.heap[g1]?=some (.cells nil4 28):=(B3.block g1 (by omega)).trans ((B2.block g1 (by omega)).trans G1);have BB3:Below g1 w w3:=by
  rw[hg1];exact B1.trans ((B2.trans (B3.mono B2.size)).mono B1.size)
 have HC:=code_c w3 o3 (g1+2) (g1+1) (by omega) _ D3;have HG1:=Lib.hid hg1;clear hg1 c2 B1 B2 B3 G1 ho3 D3 hcp1 hcp2;go_enter Tryd.func10,Tryd.ntmps10;go_wp2_with fail;rw[<-hw1];clear hw1;rw[kc,<-HG1.out];clear kc hw2;go_wp2_with fail;try rw[z2]
 rw[<-hw3];clear hw3;refine HC.mono ?_;rintro e w4 ⟨p,c,rfl,o4,st4,C4,D4,S4,E4⟩;have BB4:Below (g1+2) w3 w4:=⟨S4.os,S4.tape,S4.output,S4.size,fun k hk=>S4.block k (by omega) (by rw[hol k hk];decide)⟩
 have G4:w4.heap[g1]?=some (.cells nil4 28):=(BB4.block g1 (by omega)).trans G3;have L4:∀ k,k<g1->o4 k=0:=fun k hk=>by rw[S4.lab k (by omega)];exact hol k (by omega)
 have hO4:o4 g1=0:=by rw[S4.lab g1 (by omega)];exact hol g1 (by omega)
 have HO4:=Lib.hid hO4;clear hO4;have sz4:=S4.size;have D4b:=D4.blk;have D4l:=D4.lt;clear HC S4;obtain⟨w5,hw5⟩:∃w5,w5=w4.alloc (.cells (cdA p c) 28):=⟨_,rfl⟩
 obtain⟨g5,hg5⟩:∃g5,g5=w4.heap.size:=⟨_,rfl⟩
 have B5:Below w4.heap.size w4 w5:=by rw[hw5];exact b1 _ _
 have K5:bx4 p c w5 g5:=by rw[hw5,hg5];exact bx4_new p c w4
 have L5:g5<w5.heap.size:=by rw[hw5,hg5];simp
 have C5:=C4.step (Step.ofBelow (I:=fun _=>False) o4 B5) (fun h=>h) (fun h=>h) (fun h=>h) (fun h=>h);have D5:=D4.step (Step.ofBelow (I:=fun _=>False) o4 B5) (fun h=>h) (fun h=>h);have G5:=(B5.block g1 (by omega)).trans G4;have BB5:Below g1 w w5:=(BB3.trans (BB4.mono (by omega))).trans (B5.mono (by omega));have F5:Fx w5:=hF.below (by rw[<-HG1.out];exact BB5);clear hF;have HG5:=Lib.hid hg5;have hgn:g5≠g1:=by omega
 have hg15:g1<w5.heap.size:=by omega
 have hg25:g1+2<w5.heap.size:=by omega
 clear C4 D4 G4 BB3 BB4 G3 B5 hg5;go_upto_region 3 with fail;rw[<-hw5,<-HG5.out];clear hw5;obtain⟨k0,k1,k2,k3⟩:=K5;obtain⟨⟨c0,c1,c2,c3⟩,gf⟩:=cells4 G5;have gf0:=gf 0;have gf1:=gf 1;have gf2:=gf 2;have gf3:=gf 3;cases st4 with
 | none =>
  obtain⟨d0,d1,-,-⟩:=cells2r (show Blk w5 o4 2 (g1+2) (.cells #[.slice none 0 0,.bool true] 52) from D5).1;have hno:∀ d,¬IsE s.data.toList d:=fun d hd=>by
   have:=hd.read (mn:=12) (mk:=3) (by omega) (by omega) (by omega) (by omega)
   simp only[Option.bind_some] at E4;rw[this] at E4;cases E4
  have HN:=Lib.hid hno;clear hno E4;have GZ:=G5;have BZ:=BB5;have ZE:=set4c (.slice none 0 0) (.slice none 0 0) (.slice none 0 0) (.slice none 0 0) GZ;have BE:=(((BZ.setCell (p:=⟨g1,0,none⟩) (Nat.le_refl _) (.slice none 0 0)).setCell (p:=⟨g1,1,none⟩) (Nat.le_refl _) (.slice none 0 0)).setCell (p:=⟨g1,2,none⟩) (Nat.le_refl _) (.slice none 0 0)).setCell (p:=⟨g1,3,none⟩) (Nat.le_refl _) (.slice none 0 0);obtain⟨⟨u0,u1,u2,u3⟩,-⟩:=cells4 ZE;have HBE:=Lib.hid BE;clear ZE BE;go_wp2;exact bodyPost_ret (v:=.tuple #[.agg nil4,.int .i64 180]) (by simp[results,Tryd.results10,go_sem,u0,u1,u2,u3]) rfl ⟨by rw[<-HG1.out];exact HBE.out,.inr ⟨rfl,HN.out⟩⟩
 | some r =>
  obtain⟨-,-,hrl,off,cap2,hrc,hrm,hrb,-⟩:=D5;obtain⟨d0,d1,-,-⟩:=cells2r hrb.1;have hrd:rdC 12 3 s.data.toList=some (c,r):=by simpa using E4
  have ho:=rdC_ok (by omega) (by omega) hrd;have hbk:=rdC_back (by omega) (by omega) hrd;have HBK:=Lib.hid hbk;clear hbk;have CW:=C5.cdw ho;have RC:=right_c p c w5 F5 CW;have hun:∀ d,IsE s.data.toList d->d=c:=fun d hd=>by
   have:=hd.read (mn:=12) (mk:=3) (by omega) (by omega) (by omega) (by omega)
   rw[hrd] at this;simp only[Option.some.injEq,Prod.mk.injEq] at this;exact this.1.symm
  clear E4 hrd D4b;cases hr:rgtB c
  ·have hno:∀ d,¬IsE s.data.toList d:=fun d hd=>by
    have:=hun d hd
    subst this;rw[hd.2.1] at hr;cases hr
   have HN:=Lib.hid hno;rw[hr] at RC;clear hno hun;go_wp2_with (go_at_call 9;refine RC.mono ?_;rintro e w6 ⟨rfl,B6⟩;have GZ:=(B6.block g1 (by omega)).trans G5;obtain⟨⟨c0,c1,c2,c3⟩,gz⟩:=cells4 GZ;have gz0:=gz 0;have gz1:=gz 1;have gz2:=gz 2;have gz3:=gz 3);have BZ:=BB5.trans (B6.mono (Nat.le_of_lt hg15));have ZE:=set4c (.slice none 0 0) (.slice none 0 0) (.slice none 0 0) (.slice none 0 0) GZ;have BE:=(((BZ.setCell (p:=⟨g1,0,none⟩) (Nat.le_refl _) (.slice none 0 0)).setCell (p:=⟨g1,1,none⟩) (Nat.le_refl _) (.slice none 0 0)).setCell (p:=⟨g1,2,none⟩) (Nat.le_refl _) (.slice none 0 0)).setCell (p:=⟨g1,3,none⟩) (Nat.le_refl _) (.slice none 0 0);obtain⟨⟨u0,u1,u2,u3⟩,-⟩:=cells4 ZE;have HBE:=Lib.hid BE;clear ZE BE;exact bodyPost_ret (v:=.tuple #[.agg nil4,.int .i64 180]) (by simp[results,Tryd.results10,go_sem,u0,u1,u2,u3]) rfl ⟨by rw[<-HG1.out];exact HBE.out,.inr ⟨rfl,HN.out⟩⟩
  ·rw[hr] at RC;have hbl:=body_len ho hr;have SD:=fun w3=>sealed_c ⟨(bodB c).toArray⟩ w3 (by rw[size_mk];omega);have e1:(⟨(bodB c).toArray⟩:ByteArray).data.toList=bodB c:=by simp
   rw[e1] at SD;have hsz:s.size=(bodB c).length+r.length:=by rw[<-hln,HBK.out,List.length_append]
   obtain⟨k,hk⟩:∃k,k=(bodB c).length:=⟨_,rfl⟩
   have hex:s.extract 0 k=⟨(bodB c).toArray⟩:=by
    apply ByteArray.ext;apply Array.ext';rw[ByteArray.data_extract,Array.toList_extract,HBK.out,hk];simp
   have HEX:=Lib.hid hex;rw[<-hk] at hsz;have hsI:(s.size:Int)-(r.length:Int)=(k:Int):=by omega
   have HK:=Lib.hid hk;have HUN:=Lib.hid hun;clear hex hk hun e1;rw[<-HEX.out] at SD;have HIE:Hid (encB c=sldB (bodB c)):=rfl;generalize sldB (bodB c)=zl at *;by_cases hz:(⟨zl.toArray⟩:ByteArray)=s
   ·have hIs:IsE s.data.toList c:=⟨ho,hr,by rw[HIE.out,<-hz]⟩
    have HIs:=Lib.hid hIs;rw[hz] at SD;clear hIs hz;go_wp2_with (first|(go_at_call 9;refine RC.mono ?_;rintro e w6 ⟨rfl,B6⟩;have d02:=(B6.cell (p:=⟨g1+2,0,none⟩) hg25).trans d0)|(go_at_call 14;refine(SD _).mono ?_;rintro e w7 ⟨rfl,B7⟩;have GZ:=((B6.trans (B7.mono B6.size)).block g1 hg15).trans G5;obtain⟨⟨c0,c1,c2,c3⟩,gz⟩:=cells4 GZ;have gz0:=gz 0;have gz1:=gz 1;have gz2:=gz 2;have gz3:=gz 3;obtain⟨q0,q1,q2,q3⟩:=bx4_below ⟨k0,k1,k2,k3⟩ L5 (B6.trans (B7.mono B6.size))));have B8:=B6.trans (B7.mono B6.size);have BZ:=BB5.trans (B8.mono (Nat.le_of_lt hg15));have ZE:=set4c (.slice p.aw c.ws.length p.cw) (.slice p.ac c.cs.length p.cc) (.slice p.an c.ns.length p.cn) (.slice p.ak c.ks.length p.ck) GZ;have BE:=(((BZ.setCell (p:=⟨g1,0,none⟩) (Nat.le_refl _) (.slice p.aw c.ws.length p.cw)).setCell (p:=⟨g1,1,none⟩) (Nat.le_refl _) (.slice p.ac c.cs.length p.cc)).setCell (p:=⟨g1,2,none⟩) (Nat.le_refl _) (.slice p.an c.ns.length p.cn)).setCell (p:=⟨g1,3,none⟩) (Nat.le_refl _) (.slice p.ak c.ks.length p.ck);obtain⟨⟨u0,u1,u2,u3⟩,-⟩:=cells4 ZE;have o4g:o4 g1=0:=HO4.out;have CE:CdR ((((w7.setCell ⟨g1,0,none⟩ (.slice p.aw c.ws.length p.cw)).setCell ⟨g1,1,none⟩ (.slice p.ac c.cs.length p.cc)).setCell ⟨g1,2,none⟩ (.slice p.an c.ns.length p.cn)).setCell ⟨g1,3,none⟩ (.slice p.ak c.ks.length p.ck)) o4 p c:=((C5.step (Step.ofBelow (I:=fun _=>False) o4 B8) (fun h=>h) (fun h=>h) (fun h=>h) (fun h=>h)).step (((((Step.refl (fun k=>k=0) w7 o4).setCell ⟨g1,0,none⟩ _ o4g).setCell ⟨g1,1,none⟩ _ o4g).setCell ⟨g1,2,none⟩ _ o4g).setCell ⟨g1,3,none⟩ _ o4g) (by decide) (by decide) (by decide) (by decide))
    have HBE:=Lib.hid BE;have HCE:=Lib.hid CE;clear ZE BE CE;exact bodyPost_ret (v:=.tuple #[cdV p c,.int .i64 0]) (by simp[results,Tryd.results10,go_sem,u0,u1,u2,u3]) rfl ⟨by rw[<-HG1.out];exact HBE.out,.inl ⟨p,c,rfl,HIs.out,o4,fun k hk=>L4 k (by rw[HG1.out];exact hk),HCE.out⟩⟩
   ·have hno:∀ d,¬IsE s.data.toList d:=fun d hd=>by
     have:=HUN.out d hd
     subst this;apply hz;have h3:=hd.2.2;rw[HIE.out] at h3;rw[h3]
    have HN:=Lib.hid hno;have hze:(zl==s.toList)=false:=by
     have h4:=str_ne hz;have h5:(⟨zl.toArray⟩:ByteArray).toList=zl:=by rw[ByteArray.toList_eq]
     rw[h5] at h4;exact h4
    have HZ:=Lib.hid hze;clear hno hze;go_wp2_with (first|(go_at_call 9;refine RC.mono ?_;rintro e w6 ⟨rfl,B6⟩;have d02:=(B6.cell (p:=⟨g1+2,0,none⟩) hg25).trans d0)|(go_at_call 14;refine(SD _).mono ?_;rintro e w7 ⟨rfl,B7⟩;have GZ:=((B6.trans (B7.mono B6.size)).block g1 hg15).trans G5;obtain⟨⟨c0,c1,c2,c3⟩,gz⟩:=cells4 GZ;have gz0:=gz 0;have gz1:=gz 1;have gz2:=gz 2;have gz3:=gz 3;obtain⟨q0,q1,q2,q3⟩:=bx4_below ⟨k0,k1,k2,k3⟩ L5 (B6.trans (B7.mono B6.size))))
    all_goals first
    | (exfalso;rename_i hx;rw[HZ.out] at hx;cases hx;done)
    | (
     have B8:=B6.trans (B7.mono B6.size);have BZ:=BB5.trans (B8.mono (Nat.le_of_lt hg15));have ZE:=set4c (.slice none 0 0) (.slice none 0 0) (.slice none 0 0) (.slice none 0 0) GZ;have BE:=(((BZ.setCell (p:=⟨g1,0,none⟩) (Nat.le_refl _) (.slice none 0 0)).setCell (p:=⟨g1,1,none⟩) (Nat.le_refl _) (.slice none 0 0)).setCell (p:=⟨g1,2,none⟩) (Nat.le_refl _) (.slice none 0 0)).setCell (p:=⟨g1,3,none⟩) (Nat.le_refl _) (.slice none 0 0);obtain⟨⟨u0,u1,u2,u3⟩,-⟩:=cells4 ZE;have HBE:=Lib.hid BE;clear ZE BE;exact bodyPost_ret (v:=.tuple #[.agg nil4,.int .i64 180]) (by simp[results,Tryd.results10,go_sem,u0,u1,u2,u3]) rfl ⟨by rw[<-HG1.out];exact HBE.out,.inr ⟨rfl,HN.out⟩⟩)
end Go.Proofs.YtdhhnhjolmnkjabDoor
