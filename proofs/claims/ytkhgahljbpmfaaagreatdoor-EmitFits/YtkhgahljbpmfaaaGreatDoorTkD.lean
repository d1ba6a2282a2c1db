import Derived.Test.YtkhgahljbpmfaaaGreatDoorEmN
set_option maxRecDepth 100000
set_option maxHeartbeats 8000000
namespace Go.Proofs.YtkhgahljbpmfaaaGreatDoor
open Go.ChangeShapes Go.WideShapes Go.ChangeAt Go.RowKit
set_option linter.unusedVariables false
set_option linter.unusedSimpArgs false
structure EmTab (w:World):Prop where
 tab:Tab w
 bar:∀ k:Nat,k<25->w.cell? ⟨0,k,none⟩=some (.int .i64 ([0,0,0,0,0,0,4,5,6,7,8,9,10,0,0,0,0,0,0,0,0,0,20,0,22].getD k 0))
 lt:0<w.heap.size
theorem EmTab.below {w w':World}(h:EmTab w)(b:Below w.heap.size w w'):EmTab w':=⟨h.tab.below b,fun k hk=>(b.cell (p:=⟨0,k,none⟩) h.lt).trans (h.bar k hk),Nat.lt_of_lt_of_le h.lt b.size⟩
abbrev o00:Nat->Nat:=fun _=>0
theorem newWriter_c (cv:Value)(cells:List Int)(w:World)(hcl:cells.length<=256)(hc:InA w cv cells) :
  Calls Tryz.prog 39 #[cv] w fun e w'=>∃rb o',e=.returned (pt0 rb)/\EmW w' o' rb cv (em0 cells)/\Below w.heap.size w w'/\∀ k,k<w.heap.size->o' k=0:=by
 obtain⟨ao,cap,rfl,-⟩:=hc;obtain⟨w1,hw1⟩:∃w1,w1=w.alloc (.cells #[.int .i64 1] 3):=⟨_,rfl⟩
 obtain⟨g,hg⟩:∃g,g=w.heap.size:=⟨_,rfl⟩
 have B1:Below g w w1:=by rw[hw1,hg];exact b1 _ _
 have C1:w1.cell? ⟨g,0,none⟩=some (.int .i64 1):=cell1e (by rw[hw1,hg];exact heap_alloc_new _ _);have L1:g<w1.heap.size:=by rw[hw1,hg];simp
 have HR:=repeat1_c w1 g 0 1 cells.length (by omega) L1 C1;have HG:=Lib.hid hg;clear hg;go_enter Tryz.func39,Tryz.ntmps39;go_wp2_with fail;rw[<-hw1,<-HG.out];clear hw1;refine HR.mono ?_;rintro e w2 ⟨gk,rfl,hgk,K2,B2⟩;clear HR;obtain⟨r,hr⟩:∃r,r=w2.heap.size:=⟨_,rfl⟩
 obtain⟨w5,hw5⟩:∃w5,w5=((w2.alloc (.map #[] 0)).alloc (.map #[] 0)).alloc (.cells #[.slice none 0 0,.slice none 0 0,.slice none 0 0,.slice (some ⟨gk,0,none⟩) cells.length cells.length,.map (some r),.map (some (r+1)),.slice ao cells.length cap,.int .i64 0] 90):=⟨_,rfl⟩
 obtain⟨z1,z2,z3,z4,z5⟩:=al3 w2 (.map #[] 0) (.map #[] 0) (.cells #[.slice none 0 0,.slice none 0 0,.slice none 0 0,.slice (some ⟨gk,0,none⟩) cells.length cells.length,.map (some r),.map (some (r+1)),.slice ao cells.length cap,.int .i64 0] 90);rw[<-hw5,<-hr] at z1 z2 z3 z4 z5;have hgr:gk<r:=by rw[hr];exact lt_of_block K2
 have hgw:g<gk:=by omega
 have HF:Hid (∃rb o',Ending.returned (.pointer (some ⟨r+2,0,none⟩))=.returned (pt0 rb)/\EmW w5 o' rb (.slice ao cells.length cap) (em0 cells)/\Below w.heap.size w w5/\∀ k,k<w.heap.size->o' k=0):=by
  obtain⟨o',ho'⟩:∃o':Nat->Nat,o'=fun k=>if k=r+2 then 1 else if k=gk then 5 else if k=r then 6 else if k=r+1 then 7 else 0:=⟨_,rfl⟩
  have l1:o' (r+2)=1:=by rw[ho'];simp
  have l5:o' gk=5:=by rw[ho'];show (if gk=r+2 then 1 else if gk=gk then 5 else _)=5;rw[if_neg (by omega),if_pos rfl]
  have l6:o' r=6:=by rw[ho'];show (if r=r+2 then 1 else if r=gk then 5 else if r=r then 6 else _)=6;rw[if_neg (by omega),if_neg (by omega),if_pos rfl]
  have l7:o' (r+1)=7:=by rw[ho'];show (if r+1=r+2 then 1 else if r+1=gk then 5 else if r+1=r then 6 else if r+1=r+1 then 7 else 0)=7;rw[if_neg (by omega),if_neg (by omega),if_neg (by omega),if_pos rfl]
  have B25:Below r w2 w5:=z5;refine⟨r+2,o',rfl,⟨fun x hx=>by simp[em0] at hx,fun x hx=>by simp[em0] at hx,fun x hx=>by simp[em0] at hx,_,_,_,_,r,r+1,⟨z3,l1⟩,Row.nil _ _ _ _ _,Row.nil _ _ _ _ _,Row.nil _ _ _ _ _,?_,?_,?_⟩,?_,fun k hk=>?_⟩
  ·have hK:w5.heap[gk]?=_:=(B25.block gk hgr).trans K2;have e1:(em0 cells).ks.length=cells.length:=by simp[em0]
   have e2:eiV (em0 cells).ks=List.replicate cells.length (Value.int .i64 1):=by simp[eiV,em0]
   rw[e1,e2];refine⟨⟨by simp,.inr ⟨gk,cells.length,_,rfl,Nat.zero_le _,hK,Nat.le_refl _,by unfold maxLen;omega,by simp,by simp⟩⟩,fun k hk=>?_⟩;simp[Value.ownBlock] at hk;rw[<-hk];exact l5
  ·obtain⟨D,q1,q2,q3,q4⟩:=MpC.made w2 o00 6;rw[<-hr] at q1;exact⟨D,own_stepE q1 (Step.ofBelow (I:=fun _=>False) (w:=w2.alloc (.map #[] 0)) (w':=w5) o00 (by rw[hw5];exact((Below.refl _ _).alloc (Nat.le_refl _) _).alloc (by simp) _)) id,q2,l6,q4⟩
  ·obtain⟨D,q1,q2,q3,q4⟩:=MpS.made (w2.alloc (.map #[] 0)) o00 7;have e:(w2.alloc (.map #[] 0)).heap.size=r+1:=by rw[hr];simp
   rw[e] at q1;exact⟨D,own_stepE q1 (Step.ofBelow (I:=fun _=>False) (w':=w5) o00 (by rw[hw5];exact b1 _ _)) id,q2,l7,q4⟩
  ·rw[<-HG.out];exact(B1.trans (B2.mono (Nat.le_of_lt L1))).trans (B25.mono (by omega))
  ·rw[<-HG.out] at hk;rw[ho'];show (if k=r+2 then 1 else if k=gk then 5 else if k=r then 6 else if k=r+1 then 7 else 0)=0;rw[if_neg (by omega),if_neg (by omega),if_neg (by omega),if_neg (by omega)]
 have hmm:=@run_makeMap Tryz.prog;have HR:=Lib.hid hr;clear z1 z2 z3 z4 z5 K2 B2 B1 C1 hr;rw[HR.out] at hw5 HF;go_wp2;rw[<-hw5];clear hw5;go_ret;exact HF.out
abbrev nil4e:Array Value:=#[.slice none 0 0,.slice none 0 0,.slice none 0 0,.slice none 0 0]
structure EmC (w:World)(o:Nat->Nat)(s:Em)(vw vc vn vk:Value):Prop where
 ok:∀ x ∈ s.ws,x.ok
 ci:∀ n ∈ s.cs,-9223372036854775808<=n/\n<=9223372036854775807
 ni:∀ x ∈ s.ns,x.length<=maxLen
 ws:Row w o 2 54 1 vw s.ws.length (woV s.ws)
 cs:Row w o 3 3 1 vc s.cs.length (eiV s.cs)
 ns:Row w o 4 9 1 vn s.ns.length (esV s.ns)
 ks:Row w o 5 3 1 vk s.ks.length (eiV s.ks)
def EmOut (w:World)(e:Ex)(cells:List Int)(z:Ending)(w':World):Prop :=
 Below w.heap.size w w'/\((kindP cells e=0/\z=.returned (.tuple #[.agg nil4e,.int .i64 140])) \/
  (kindP cells e≠0/\(32768<(emA cells e).ws.length\/1024<(emA cells e).dp)/\z=.returned (.tuple #[.agg nil4e,.int .i64 190])) \/
  (kindP cells e≠0/\(emA cells e).ws.length<=32768/\(emA cells e).dp<=1024/\(emA cells e).mes<=100000000/\∃vw vc vn vk o',z=.returned (.tuple #[.agg #[vw,vc,vn,vk],.int .i64 0])/\(∀ k,k<w.heap.size->o' k=0)/\EmC w' o' (emA cells e) vw vc vn vk))
theorem emx_of {w w':World}{o':Nat->Nat}{cv:Value}{cells:List Int}(h:EmTab w)(hc:InA w cv cells)(B:Below w.heap.size w w')(ho:∀ k,k<w.heap.size->o' k=0):EmX w' o' cv cells:=by
 have h':=h.below B;obtain⟨ao,cap,hv,hx⟩:=hc;refine⟨h'.tab,ho _ h.tab.2.2.2.2.2.2,h'.bar,⟨ho _ h.lt,h'.lt⟩,ao,cap,hv,?_⟩;rcases hx with hx|⟨b,off,h1,h2,h3,h4⟩
 ·exact .inl hx
 ·exact .inr ⟨b,off,h1,ho b h3,Nat.lt_of_lt_of_le h3 B.size,fun j x hj=>(B.cell (p:=⟨b,off+j,none⟩) h3).trans (h4 j x hj)⟩
theorem cells5e {w:World}{b:Nat}{x0 x1 x2 x3 x4:Value}{t:TypeId}(h:w.heap[b]?=some (.cells #[x0,x1,x2,x3,x4] t)):w.cell? ⟨b,0,none⟩=some x0/\w.cell? ⟨b,1,none⟩=some x1/\w.cell? ⟨b,2,none⟩=some x2/\w.cell? ⟨b,3,none⟩=some x3/\w.cell? ⟨b,4,none⟩=some x4:=by
 refine⟨?_,?_,?_,?_,?_⟩<;>simp[World.cell?,h]
theorem set4e {w:World}{b:Nat}{x0 x1 x2 x3:Value}{t:TypeId}(y0 y1 y2 y3:Value)(h:w.heap[b]?=some (.cells #[x0,x1,x2,x3] t)):((((w.setCell ⟨b,0,none⟩ y0).setCell ⟨b,1,none⟩ y1).setCell ⟨b,2,none⟩ y2).setCell ⟨b,3,none⟩ y3).heap[b]?=some (.cells #[y0,y1,y2,y3] t) :=
 heap_setCell_same _ b 3 _ _ _ (heap_setCell_same _ b 2 _ _ _ (heap_setCell_same _ b 1 _ _ _ (heap_setCell_same w b 0 _ _ _ h)))
theorem emit_c (e:Ex)(ao:Option Addr)(cap:Nat)(cv:Value)(cells:List Int)(w:World)(hf:FitN e)(hn:-9223372036854775808<=e.n/\e.n<=9223372036854775807)(hr:e.kids.rng)(hW:Wd w)(hT:EmTab w)(hc:InA w cv cells)(hcl:cells.length<=1000000000)(S:SnA w e.kids ao) :
  Calls Tryz.prog 16 #[plV e ao cap cv] w (EmOut w e cells):=by
 obtain⟨g,hg⟩:∃g,g=w.heap.size:=⟨_,rfl⟩
 obtain⟨w1,hw1⟩:∃w1,w1=(w.alloc (.cells #[.int .i64 e.k,.int .i64 e.n,stv e.nm,.slice ao e.kids.len cap,cv] 37)).alloc (.cells nil4e 42):=⟨_,rfl⟩
 obtain⟨z1,z2,z3,z4⟩:=al2 w (.cells #[.int .i64 e.k,.int .i64 e.n,stv e.nm,.slice ao e.kids.len cap,cv] 37) (.cells nil4e 42);rw[<-hw1,<-hg] at z1 z2 z3 z4;have B1:Below w.heap.size w w1:=by rw[<-hg];exact z4
 have HC:=rightp_c e ao cap cv cells w1 hf (hW.below B1) (hc.below B1) hcl (SnA.below S B1);have hcv:=hc;obtain⟨ac,cc,rfl,-⟩:=hcv;rw[plV_out] at HC ⊢;have HG:=Lib.hid hg;clear hg;obtain⟨c0,c1,c2,c3,c4⟩:=cells5e z1;by_cases hk:kindP cells e=0
 ·rw[decide_eq_false (by simp[hk])] at HC;have HK:=Lib.hid hk;clear hk;go_enter Tryz.func16,Tryz.ntmps16;go_upto_region 1 with fail;rw[<-hw1,<-HG.out];clear hw1;go_upto_region 2 with (first|(go_at_call 38;refine HC.mono ?_;rintro z w2 ⟨rfl,B2⟩))
  have GZ:=(B2.block (g+1) (by omega)).trans z2;obtain⟨⟨d0,d1,d2,d3⟩,df⟩:=cells4e GZ;have df0:=df 0;have df1:=df 1;have df2:=df 2;have df3:=df 3;have BZ:Below g w w2:=z4.trans (B2.mono (by omega));have ZE:=set4e (.slice none 0 0) (.slice none 0 0) (.slice none 0 0) (.slice none 0 0) GZ;have hle:g<=g+1:=by omega
  have BE:=(((BZ.setCell (p:=⟨g+1,0,none⟩) hle (.slice none 0 0)).setCell (p:=⟨g+1,1,none⟩) hle (.slice none 0 0)).setCell (p:=⟨g+1,2,none⟩) hle (.slice none 0 0)).setCell (p:=⟨g+1,3,none⟩) hle (.slice none 0 0);obtain⟨⟨m0,m1,m2,m3⟩,-⟩:=cells4e ZE;have HBE:=Lib.hid BE;clear ZE BE GZ BZ HC z1 z2 z3 z4 B1 B2 c0 c1 c2 c3 c4;go_wp2;exact bodyPost_ret (v:=.tuple #[.agg nil4e,.int .i64 140]) (by simp[results,Tryz.results16,go_sem,m0,m1,m2,m3]) rfl ⟨by rw[<-HG.out];exact HBE.out,.inl ⟨HK.out,rfl⟩⟩
 ·rw[decide_eq_true hk] at HC;obtain⟨hok,hsz,hnc,hcb⟩:=kindP_ok hk hn hr;have HK:=Lib.hid hk;clear hk;go_enter Tryz.func16,Tryz.ntmps16;go_upto_region 1 with fail;rw[<-hw1,<-HG.out];clear hw1;go_upto_region 3 with (first|(go_at_call 38;refine HC.mono ?_;rintro z w2 ⟨rfl,B2⟩))
  have B12:Below w.heap.size w w2:=B1.trans (B2.mono B1.size);have y1:=(B2.block g (by omega)).trans z1;have y2:=(B2.block (g+1) (by omega)).trans z2;have L2:g+2<=w2.heap.size:=by rw[<-z3];exact B2.size
  have HN:=newWriter_c _ cells w2 hnc (hc.below B12);clear c0 c1 c2 c3 c4 HC;obtain⟨c0,c1,c2,c3,c4⟩:=cells5e y1;go_upto_region 4 with (first|(go_at_call 39;refine HN.mono ?_;rintro z w3 ⟨rb,o3,rfl,E3,B3,ho3⟩))
  have X3:=emx_of (hT.below B12) (hc.below B12) B3 ho3;have SN3:SnO w3 o3 e.kids ao:=(SnA.below S B12).mono (fun k _ hl=>B3.block k hl) B3.size (fun k _ hl=>ho3 k hl);have b3p:Blk w3 o3 0 g (.cells #[.int .i64 e.k,.int .i64 e.n,stv e.nm,.slice ao e.kids.len cap,.slice ac cells.length cc] 37):=⟨(B3.block g (by omega)).trans y1,ho3 g (by omega)⟩
  have b3r:Blk w3 o3 0 (g+1) (.cells nil4e 42):=⟨(B3.block (g+1) (by omega)).trans y2,ho3 (g+1) (by omega)⟩
  have hm0:(em0 cells).mes=0:=rfl;have hk0:(em0 cells).ks.length=cells.length:=by simp[em0]
  have HP:=part_all cells.length (e.kids.size+1) e ao cap 0 0 w3 o3 rb _ cells (em0 cells) (by omega) hok rfl hnc SN3 hk0 (by rw[hm0];omega) (by omega) (by omega) (by show 0<=_;omega) X3 E3;rw[exN_out] at HP;have BW:Below g w w3:=(by rw[<-HG.out] at B12;exact B12.trans (B3.mono (by omega)))
  clear c0 c1 c2 c3 c4 HN;obtain⟨c0,c1,c2,c3,c4⟩:=cells5e b3p.1;go_upto_region 5 with (first|(go_at_call 40;refine HP.mono ?_;rintro z w4 ⟨rfl,⟨o4,E4,S4⟩,g4⟩))
  have X4:=X3.step S4 not0;have HL:=lay_c 0 0 0 w4 o4 rb _ cells (emE cells e 0 0 (em0 cells)) (by omega) (by omega) (by omega) (by have:=g4.mes;rw[hm0] at this;omega) X4 E4;go_upto_region 6 with (first|(go_at_call 41;refine HL.mono ?_;rintro z w5 ⟨rfl,o5,E5,S5⟩))
  have heq:(emE cells e 0 0 (em0 cells)).lay 0 0 0=emA cells e:=rfl;rw[heq] at E5;have hmes:(emA cells e).mes<=100000000:=by
   rw[<-heq,Em.mes_lay]
   have:=g4.mes
   rw[hm0] at this;omega
  have HMES:=Lib.hid hmes;have S35:=S4.trans S5;have b5r:=b3r.step S35 not0;have ho5:∀ k,k<w.heap.size->o5 k=0:=fun k hk2=>by
   have hg:=HG.out;have hb:=BW.size;rw[S35.lab k (by have:=B3.size;omega)];exact ho3 k (by omega)
  have B5:Below g w w5:=BW.trans ⟨S35.os,S35.tape,S35.output,S35.size,fun k hk2=>S35.block k (by have:=B3.size;omega) (by rw[ho3 k (by omega)];exact not0)⟩;obtain⟨h1,h2,h3,vw,vc,vn,vk,mc,mn,q0,q1,q2,q3,q4,q5,q6⟩:=E5;obtain⟨⟨t0,t1,t2,t3,t4,t5,t6,t7⟩,-⟩:=cells8 q0.1;obtain⟨⟨d0,d1,d2,d3⟩,df⟩:=cells4e b5r.1;have df0:=df 0;have df1:=df 1;have df2:=df 2;have df3:=df 3;have hle:g<=g+1:=by omega
  obtain⟨aw,cw,rfl⟩:=q1.form;obtain⟨ac2,cc2,rfl⟩:=q2.form;obtain⟨an,cn,rfl⟩:=q3.form;obtain⟨ak,ck,rfl⟩:=q4.form;by_cases hA:32768<(emA cells e).ws.length
  ·have hAI:(32768:Int)<((emA cells e).ws.length:Int):=by omega
   have ZE:=set4e (.slice none 0 0) (.slice none 0 0) (.slice none 0 0) (.slice none 0 0) b5r.1;have BE:=(((B5.setCell (p:=⟨g+1,0,none⟩) hle (.slice none 0 0)).setCell (p:=⟨g+1,1,none⟩) hle (.slice none 0 0)).setCell (p:=⟨g+1,2,none⟩) hle (.slice none 0 0)).setCell (p:=⟨g+1,3,none⟩) hle (.slice none 0 0);obtain⟨⟨m0,m1,m2,m3⟩,-⟩:=cells4e ZE;have HBE:=Lib.hid BE;have HA:=Lib.hid hA;clear ZE BE B5 b3r b3p b5r q1 q2 q3 q4 q5 q6 X3 X4 S35 SN3 E3 E4 BW HP HL B3 B12 y1 y2 B1 B2 z1 z2 z4 hT hW S hc;go_wp2;exact bodyPost_ret (v:=.tuple #[.agg nil4e,.int .i64 190]) (by simp[results,Tryz.results16,go_sem,m0,m1,m2,m3]) rfl ⟨by rw[<-HG.out];exact HBE.out,.inr (.inl ⟨HK.out,.inl HA.out,rfl⟩)⟩
  ·have hAI:¬(32768:Int)<((emA cells e).ws.length:Int):=by omega
   by_cases hB:1024<(emA cells e).dp
   ·have hBI:(1024:Int)<((emA cells e).dp:Int):=by omega
    have ZE:=set4e (.slice none 0 0) (.slice none 0 0) (.slice none 0 0) (.slice none 0 0) b5r.1;have BE:=(((B5.setCell (p:=⟨g+1,0,none⟩) hle (.slice none 0 0)).setCell (p:=⟨g+1,1,none⟩) hle (.slice none 0 0)).setCell (p:=⟨g+1,2,none⟩) hle (.slice none 0 0)).setCell (p:=⟨g+1,3,none⟩) hle (.slice none 0 0);obtain⟨⟨m0,m1,m2,m3⟩,-⟩:=cells4e ZE;have HBE:=Lib.hid BE;have HA:=Lib.hid hB;clear ZE BE B5 b3r b3p b5r q1 q2 q3 q4 q5 q6 X3 X4 S35 SN3 E3 E4 BW HP HL B3 B12 y1 y2 B1 B2 z1 z2 z4 hT hW S hc;go_wp2;exact bodyPost_ret (v:=.tuple #[.agg nil4e,.int .i64 190]) (by simp[results,Tryz.results16,go_sem,m0,m1,m2,m3]) rfl ⟨by rw[<-HG.out];exact HBE.out,.inr (.inl ⟨HK.out,.inr HA.out,rfl⟩)⟩
   ·have hBI:¬(1024:Int)<((emA cells e).dp:Int):=by omega
    have ZE:=set4e (.slice aw (emA cells e).ws.length cw) (.slice ac2 (emA cells e).cs.length cc2) (.slice an (emA cells e).ns.length cn) (.slice ak (emA cells e).ks.length ck) b5r.1;have BE:=(((B5.setCell (p:=⟨g+1,0,none⟩) hle (.slice aw (emA cells e).ws.length cw)).setCell (p:=⟨g+1,1,none⟩) hle (.slice ac2 (emA cells e).cs.length cc2)).setCell (p:=⟨g+1,2,none⟩) hle (.slice an (emA cells e).ns.length cn)).setCell (p:=⟨g+1,3,none⟩) hle (.slice ak (emA cells e).ks.length ck);have SE:Step (fun k=>k=0) w5 o5 ((((w5.setCell ⟨g+1,0,none⟩ (.slice aw (emA cells e).ws.length cw)).setCell ⟨g+1,1,none⟩ (.slice ac2 (emA cells e).cs.length cc2)).setCell ⟨g+1,2,none⟩ (.slice an (emA cells e).ns.length cn)).setCell ⟨g+1,3,none⟩ (.slice ak (emA cells e).ks.length ck)) o5:=((((Step.refl _ w5 o5).setCell ⟨g+1,0,none⟩ _ b5r.2).setCell ⟨g+1,1,none⟩ _ b5r.2).setCell ⟨g+1,2,none⟩ _ b5r.2).setCell ⟨g+1,3,none⟩ _ b5r.2;obtain⟨⟨m0,m1,m2,m3⟩,-⟩:=cells4e ZE;have HBE:=Lib.hid BE;have HA:=Lib.hid (show (emA cells e).ws.length<=32768/\(emA cells e).dp<=1024 by omega);have HCE:=Lib.hid (show EmC _ o5 (emA cells e) _ _ _ _ from ⟨h1,h2,h3,q1.step SE (by decide),q2.step SE (by decide),q3.step SE (by decide),q4.step SE (by decide)⟩);have HO5:=Lib.hid ho5;clear ZE BE SE B5 b3r b3p b5r q1 q2 q3 q4 q5 q6 X3 X4 S35 SN3 E3 E4 BW HP HL B3 B12 y1 y2 B1 B2 z1 z2 z4 hT hW S hc ho5 hA hB;go_wp2;exact bodyPost_ret (v:=.tuple #[.agg #[.slice aw (emA cells e).ws.length cw,.slice ac2 (emA cells e).cs.length cc2,.slice an (emA cells e).ns.length cn,.slice ak (emA cells e).ks.length ck],.int .i64 0]) (by simp[results,Tryz.results16,go_sem,m0,m1,m2,m3]) rfl ⟨by rw[<-HG.out];exact HBE.out,.inr (.inr ⟨HK.out,HA.out.1,HA.out.2,HMES.out,_,_,_,_,o5,rfl,HO5.out,HCE.out⟩)⟩
def awE:List UInt8:=[99,111,117,110,116,32,118,32,105,110,32,102,101,119,58,32,118,32,61,32,64,49]
def rngB:Fs->Bool
 | ⟨none⟩=>true
 | ⟨some ⟨_,n,_,_,ks,r⟩⟩=>decide (-9223372036854775808<=n)&&(decide (n<=9223372036854775807)&&(rngB ks&&rngB r))
theorem rngB_of:∀ {f:Fs},rngB f=true->f.rng
 | ⟨none⟩,_=>trivial
 | ⟨some ⟨k,n,nm,a,ks,r⟩⟩,h=>by
  simp only[rngB,Bool.and_eq_true,decide_eq_true_eq] at h;exact⟨h.1,h.2.1,rngB_of h.2.2.1,rngB_of h.2.2.2⟩
def awEb (l:List UInt8):Bool:=match parseA l with
 | ⟨some (.inr (x,_))⟩=>decide ((typA x).2.1=0)&&(decide (kindP [] (ofE x [])≠0)&&(rngB (one (ofE x []))&&(decide ((emA [] (ofE x [])).ws.length=11)&&(decide ((emA [] (ofE x [])).dp<=1024)&&(decide ((emA [] (ofE x [])).cs=[0,1])&&decide ((emA [] (ofE x [])).ns=[[102,101,119]]))))))
 | _=>false
theorem aw_e:awEb awE=true:=by kernel_rfl
theorem awEb_some {l:List UInt8}(h:awEb l=true):∃x t,parseA l=.ok x t/\(typA x).2.1=0/\kindP [] (ofE x [])≠0/\(one (ofE x [])).rng/\(emA [] (ofE x [])).ws.length=11/\(emA [] (ofE x [])).dp<=1024/\(emA [] (ofE x [])).cs=[0,1]/\(emA [] (ofE x [])).ns=[[102,101,119]]:=by
 unfold awEb at h;cases hp:parseA l using Rs.on with
 | out=>rw[hp] at h;cases h
 | bad e a=>rw[hp] at h;cases h
 | ok x t =>
  rw[hp] at h;simp only[Rs.ok,Bool.and_eq_true,decide_eq_true_eq] at h;exact⟨x,t,rfl,h.1,h.2.1,rngB_of h.2.2.1,h.2.2.2.1,h.2.2.2.2.1,h.2.2.2.2.2.1,h.2.2.2.2.2.2⟩
theorem PostOf.okE {w w':World}{e:Ex}{x:Ending}(h:PostOf w e x w')(ht:(typA e).2.1=0):∃ay cy,x=.returned (.tuple #[plV (ofE e []) ay cy (.slice none 0 0),.int .i64 0])/\SlN w' (Nw w.heap.size) (ofE e []).kids ay/\Below w.heap.size w w':=by
 unfold PostOf at h;rw[if_pos ht] at h;exact h
theorem EmOut.yes {w w':World}{e:Ex}{cells:List Int}{z:Ending}(h:EmOut w e cells z w')(hk:kindP cells e≠0)(h1:(emA cells e).ws.length<=32768)(h2:(emA cells e).dp<=1024):Below w.heap.size w w'/\∃vw vc vn vk o',z=.returned (.tuple #[.agg #[vw,vc,vn,vk],.int .i64 0])/\(∀ k,k<w.heap.size->o' k=0)/\EmC w' o' (emA cells e) vw vc vn vk:=by
 obtain⟨B,h|h|h⟩:=h
 ·exact absurd h.1 hk
 ·rcases h.2.1 with h3|h3<;>omega
 ·exact⟨B,h.2.2.2.2⟩
theorem awakee_r (w:World)(hW:Wd w)(hT:EmTab w):Calls Tryz.prog 13 #[] w fun e w'=>e=.returned (.bool true)/\Below w.heap.size w w':=by
 obtain⟨x,t,hx,ht,hk,hrg,hw11,hdp,hcs,hns⟩:=awEb_some aw_e;have hok:=parse_okT hx;have c1:=parse_q ⟨awE.toArray⟩ w (by decide);have e1:(ByteArray.mk awE.toArray).data.toList=awE:=by simp
 rw[e1,hx] at c1;have hfp:FitN (ofE x []):=⟨ofE_nm x [] hok.fit.nm,Nat.le_trans (ofE_len x []) hok.fit.len,ofE_short x [] hok.fit.sh⟩
 clear e1 hx;go_enter Tryz.func13,Tryz.ntmps13;go_wp2_with fail;refine c1.mono ?_;rintro e w1 ⟨aox,capx,rfl,S1,b1⟩;clear c1;have b2:Below w1.heap.size w1 (w1.alloc (.cells #[.int .i64 x.k,.int .i64 x.n,stv x.nm,.slice aox x.kids.len capx,.int .i64 x.a] 25)):=(Below.refl _ w1).alloc (Nat.le_refl _) _;have X2:(w1.alloc (.cells #[.int .i64 x.k,.int .i64 x.n,stv x.nm,.slice aox x.kids.len capx,.int .i64 x.a] 25)).heap[w1.heap.size]?=some (.cells #[.int .i64 x.k,.int .i64 x.n,stv x.nm,.slice aox x.kids.len capx,.int .i64 x.a] 25 (0,0)):=heap_alloc_new w1 _;have B2:=b1.trans (b2.mono b1.size);have S2:SlT (w1.alloc (.cells #[.int .i64 x.k,.int .i64 x.n,stv x.nm,.slice aox x.kids.len capx,.int .i64 x.a] 25)) x.kids aox:=SlT.below (Sl.all S1) b2;rw[exV_out];go_upto_region 2 with fail;generalize w1.alloc (.cells #[.int .i64 x.k,.int .i64 x.n,stv x.nm,.slice aox x.kids.len capx,.int .i64 x.a] 25)=w2 at *;generalize w1.heap.size=bx at *;have c3:=of14_c x aox capx w2 hok.fit (by have:=hok.size;omega) S2;rw[exV_out] at c3;obtain⟨p0,p1,p2,p3,p4,pf⟩:=box5 X2;go_wp2_with fail;refine c3.mono ?_;intro e w3 h3;have h3:=h3.okE ht;clear c3;generalize ofE x []=p at *;obtain⟨ap,cp,rfl,S3,b3⟩:=h3;have B3:=B2.trans (b3.mono B2.size);clear p0 p1 p2 p3 p4 pf b1 b2 b3 B2 S2 X2 S1 hok ht;have b4:Below w3.heap.size w3 (w3.alloc (.cells #[.int .i64 p.k,.int .i64 p.n,stv p.nm,.slice ap p.kids.len cp,.slice none 0 0] 37)):=(Below.refl _ w3).alloc (Nat.le_refl _) _;have X4:(w3.alloc (.cells #[.int .i64 p.k,.int .i64 p.n,stv p.nm,.slice ap p.kids.len cp,.slice none 0 0] 37)).heap[w3.heap.size]?=some (.cells #[.int .i64 p.k,.int .i64 p.n,stv p.nm,.slice ap p.kids.len cp,.slice none 0 0] 37 (0,0)):=heap_alloc_new w3 _;have B4:=B3.trans (b4.mono B3.size);have S4:=SnA.below S3.all b4;rw[plV_out];go_upto_region 3 with fail;generalize w3.alloc (.cells #[.int .i64 p.k,.int .i64 p.n,stv p.nm,.slice ap p.kids.len cp,.slice none 0 0] 37)=w4 at *;generalize w3.heap.size=bp at *;have c5:=emit_c p ap cp (.slice none 0 0) [] w4 hfp ⟨hrg.1,hrg.2.1⟩ hrg.2.2.1 (hW.below B4) (hT.below B4) ⟨none,0,rfl,.inl rfl⟩ (by simp) S4;rw[plV_out] at c5;obtain⟨p0,p1,p2,p3,p4,pf⟩:=box5 X4;go_wp2_with fail;refine c5.mono ?_;intro e w5 h5;obtain⟨B5',vw,vc,vn,vk,o5,rfl,-,C5⟩:=h5.yes hk (by omega) hdp;clear c5 h5;have B5:=B4.trans (B5'.mono B4.size);obtain⟨aw,cw,rfl⟩:=C5.ws.form;obtain⟨ak,ck,rfl⟩:=C5.ks.form;have Rc:=C5.cs;have Rn:=C5.ns;rw[hcs] at Rc;rw[hns] at Rn;rw[hw11];obtain⟨gc,cc,rfl,-,-,-,hlc,hcc,-⟩:=Rc.pos (by decide);obtain⟨gn,cn,rfl,-,-,-,hln,hcn,-⟩:=Rn.pos (by decide);have d1:w5.cell? ⟨gc,1,none⟩=some (.int .i64 1):=hcc 1 (by decide);have d2:w5.cell? ⟨gn,0,none⟩=some (.string ⟨#[102,101,119]⟩):=hcn 0 (by decide);generalize (emA [] p).ks.length=lk at *;obtain⟨w6,hw6⟩:∃w6,w6=w5.alloc (.cells #[.slice aw 11 cw,.slice (some ⟨gc,0,none⟩) 2 cc,.slice (some ⟨gn,0,none⟩) 1 cn,.slice ak lk ck] 42):=⟨_,rfl⟩
 have b6:Below w5.heap.size w5 w6:=by rw[hw6];exact b1 _ _
 have X6:w6.heap[w5.heap.size]?=some (.cells #[.slice aw 11 cw,.slice (some ⟨gc,0,none⟩) 2 cc,.slice (some ⟨gn,0,none⟩) 1 cn,.slice ak lk ck] 42):=by rw[hw6];exact heap_alloc_new w5 _
 have B6:=B5.trans (b6.mono B5.size);have d1':=(b6.cell (p:=⟨gc,1,none⟩) hlc).trans d1;have d2':=(b6.cell (p:=⟨gn,0,none⟩) hln).trans d2;obtain⟨⟨m0,m1,m2,m3⟩,-⟩:=cells4e X6;clear d1 d2 b6 B5 hcc hcn Rc Rn C5 p0 p1 p2 p3 p4 pf X4 X6 B5' B4 S4 hcs hns hw11 hdp hk;go_upto_region 4 with fail;rw[<-hw6];clear hw6;generalize w5.heap.size=bq at *;go_wp2;go_ret;exact⟨rfl,B6⟩
structure Inv (s:Em):Prop where
 nc:s.cs.Nodup
 nn:s.ns.Nodup
 wc:∀ x ∈ s.ws,(x.op=1\/x.op=2)->x.a<s.cs.length
 wn:∀ x ∈ s.ws,x.op=21->x.a<s.ns.length
 uc:∀ i,i<s.cs.length->∃x ∈ s.ws,(x.op=1\/x.op=2)/\x.a=i
 un:∀ i,i<s.ns.length->∃x ∈ s.ws,x.op=21/\x.a=i
structure Pre (s s':Em):Prop where
 at1:∀ i,i<s.ws.length->s'.ws[i]?=s.ws[i]?
 len:s.ws.length<=s'.ws.length
 ks:s'.ks.length=s.ks.length
theorem Pre.refl (s:Em):Pre s s:=⟨fun _ _=>rfl,Nat.le_refl _,rfl⟩
theorem Pre.trans {a b c:Em}(h:Pre a b)(k:Pre b c):Pre a c:=⟨fun i hi=>(k.at1 i (Nat.lt_of_lt_of_le hi h.len)).trans (h.at1 i hi),Nat.le_trans h.len k.len,k.ks.trans h.ks⟩
def Gd (f:Em->Em):Prop:=∀ s,Inv s->Inv (f s)/\Pre s (f s)
theorem Gd.id:Gd (fun s=>s):=fun s h=>⟨h,Pre.refl s⟩
theorem Gd.comp {f g:Em->Em}(hf:Gd f)(hg:Gd g):Gd (fun s=>g (f s)):=fun s h=>⟨(hg _ (hf s h).1).1,(hf s h).2.trans (hg _ (hf s h).1).2⟩
theorem pre_lay (s:Em)(op a b:Nat):Pre s (s.lay op a b):=⟨fun i hi=>by simp only[Em.lay];exact List.getElem?_append_left hi,by simp[Em.lay],rfl⟩
theorem pre_push (s:Em)(op a b u:Nat):Pre s (s.push op a b u):=⟨fun i hi=>by simp only[Em.push];exact List.getElem?_append_left hi,by simp[Em.push],rfl⟩
theorem inv_word {s:Em}(h:Inv s)(x:Wo)(d:Nat)(h1:(x.op=1\/x.op=2)->x.a<s.cs.length)(h2:x.op=21->x.a<s.ns.length):Inv ⟨s.ws++[x],s.cs,s.ns,s.ks,d⟩:=by
 refine⟨h.nc,h.nn,fun y hy=>?_,fun y hy=>?_,fun i hi=>?_,fun i hi=>?_⟩
 ·rcases List.mem_append.1 hy with hy|hy
  ·exact h.wc y hy
  ·simp at hy;subst hy;exact h1
 ·rcases List.mem_append.1 hy with hy|hy
  ·exact h.wn y hy
  ·simp at hy;subst hy;exact h2
 ·obtain⟨y,hy,h3⟩:=h.uc i hi;exact⟨y,List.mem_append_left _ hy,h3⟩
 ·obtain⟨y,hy,h3⟩:=h.un i hi;exact⟨y,List.mem_append_left _ hy,h3⟩
theorem gd_lay (op a b:Nat)(h1:op≠1)(h2:op≠2)(h3:op≠21):Gd (fun s=>s.lay op a b):=fun s h =>
 ⟨inv_word h ⟨op,a,b⟩ s.dp (fun h=>by rcases h with h|h<;>contradiction) (fun h=>absurd h h3),pre_lay s op a b⟩
theorem inv_const {s:Em}(h:Inv s)(n:Int)(op b d:Nat)(hop:op=1\/op=2):Inv ⟨(s.kc n).ws++[⟨op,s.cs.idxOf n,b⟩],(s.kc n).cs,(s.kc n).ns,(s.kc n).ks,d⟩:=by
 by_cases hm:n ∈ s.cs
 ·have e:(s.kc n).cs=s.cs:=by simp[Em.kc,hm]
  simp only[e];exact inv_word h ⟨op,s.cs.idxOf n,b⟩ d (fun _=>List.idxOf_lt_length_of_mem hm) (fun h=>by rcases hop with e|e<;>(rw[e] at h;cases h))
 ·have e:(s.kc n).cs=s.cs++[n]:=by simp[Em.kc,hm]
  have ei:s.cs.idxOf n=s.cs.length:=List.idxOf_eq_length hm;simp only[e,ei];refine⟨?_,h.nn,fun y hy hyo=>?_,fun y hy hyo=>?_,fun i hi=>?_,fun i hi=>?_⟩
  ·rw[List.nodup_append];exact⟨h.nc,by simp,fun x hx y hy=>by simp at hy;subst hy;rintro rfl;exact hm hx⟩
  ·rw[List.length_append];rcases List.mem_append.1 hy with hy|hy
   ·have:=h.wc y hy hyo;omega
   ·simp at hy;subst hy;simp
  ·rcases List.mem_append.1 hy with hy|hy
   ·exact h.wn y hy hyo
   ·simp at hy;subst hy;rcases hop with e|e<;>(rw[e] at hyo;cases hyo)
  ·rw[List.length_append] at hi;by_cases hi2:i<s.cs.length
   ·obtain⟨y,hy,h3⟩:=h.uc i hi2;exact⟨y,List.mem_append_left _ hy,h3⟩
   ·exact⟨_,List.mem_append_right _ (List.mem_singleton.2 rfl),hop,by simp at hi;simp only;omega⟩
  ·obtain⟨y,hy,h3⟩:=h.un i hi;exact⟨y,List.mem_append_left _ hy,h3⟩
theorem inv_name {s:Em}(h:Inv s)(n:List UInt8)(d:Nat):Inv ⟨(s.kn n).ws++[⟨21,s.ns.idxOf n,0⟩],(s.kn n).cs,(s.kn n).ns,(s.kn n).ks,d⟩:=by
 by_cases hm:n ∈ s.ns
 ·have e:(s.kn n).ns=s.ns:=by simp[Em.kn,hm]
  simp only[e];exact inv_word h ⟨21,s.ns.idxOf n,0⟩ d (fun h=>by simp at h) (fun _=>List.idxOf_lt_length_of_mem hm)
 ·have e:(s.kn n).ns=s.ns++[n]:=by simp[Em.kn,hm]
  have ei:s.ns.idxOf n=s.ns.length:=List.idxOf_eq_length hm;simp only[e,ei];refine⟨h.nc,?_,fun y hy hyo=>?_,fun y hy hyo=>?_,fun i hi=>?_,fun i hi=>?_⟩
  ·rw[List.nodup_append];exact⟨h.nn,by simp,fun x hx y hy=>by simp at hy;subst hy;rintro rfl;exact hm hx⟩
  ·rcases List.mem_append.1 hy with hy|hy
   ·exact h.wc y hy hyo
   ·simp at hy;subst hy;simp at hyo
  ·rw[List.length_append];rcases List.mem_append.1 hy with hy|hy
   ·have:=h.wn y hy hyo;omega
   ·simp at hy;subst hy;simp
  ·obtain⟨y,hy,h3⟩:=h.uc i hi;exact⟨y,List.mem_append_left _ hy,h3⟩
  ·rw[List.length_append] at hi;by_cases hi2:i<s.ns.length
   ·obtain⟨y,hy,h3⟩:=h.un i hi2;exact⟨y,List.mem_append_left _ hy,h3⟩
   ·exact⟨_,List.mem_append_right _ (List.mem_singleton.2 rfl),rfl,by simp at hi;simp only;omega⟩
theorem gd_con (n:Int)(kd u:Nat):Gd (fun s=>s.con n kd u):=fun s h=>⟨inv_const h n 1 kd _ (.inl rfl),Pre.trans (b:=s.kc n) ⟨fun _ _=>rfl,Nat.le_refl _,rfl⟩ (pre_push (s.kc n) 1 _ kd u)⟩
theorem gd_vtx (n:Int)(u:Nat):Gd (fun s=>(s.kc n).push 2 (s.cs.idxOf n) 0 u):=fun s h=>⟨inv_const h n 2 0 _ (.inr rfl),Pre.trans (b:=s.kc n) ⟨fun _ _=>rfl,Nat.le_refl _,rfl⟩ (pre_push (s.kc n) 2 _ 0 u)⟩
theorem gd_nam (n:List UInt8):Gd (fun s=>(s.kn n).lay 21 (s.ns.idxOf n) 0):=fun s h=>⟨inv_name h n _,Pre.trans (b:=s.kn n) ⟨fun _ _=>rfl,Nat.le_refl _,rfl⟩ (pre_lay (s.kn n) 21 _ 0)⟩
theorem gd_var (a u:Nat):Gd (fun s=>s.push 3 a 0 u):=fun s h=>⟨inv_word h ⟨3,a,0⟩ _ (fun h=>by simp at h) (fun h=>by simp at h),pre_push s 3 a 0 u⟩
theorem land_at (s:Em)(i j:Nat):(s.land i).ws[j]?=if i=j then (s.ws[j]?).map (fun x=>x.to s.ws.length) else s.ws[j]?:=by
 simp only[Em.land];rw[List.getElem?_modify];split<;>simp
theorem to_op (x:Wo)(n:Nat):(x.to n).op=x.op:=by unfold Wo.to;split<;>rfl
theorem inv_land {s:Em}(h:Inv s){i:Nat}{x:Wo}(hx:s.ws[i]?=some x)(h1:x.op≠1)(h2:x.op≠2)(h3:x.op≠21):Inv (s.land i):=by
 have hmem:∀ y ∈ (s.land i).ws,(y.op=1\/y.op=2\/y.op=21)->y ∈ s.ws:=fun y hy ho=>by
  obtain⟨j,hj⟩:=List.mem_iff_getElem?.1 hy;rw[land_at] at hj;split at hj
  ·rename_i e
   subst e;rw[hx] at hj;simp at hj;subst hj;rw[to_op] at ho;rcases ho with ho|ho|ho<;>contradiction
  ·exact List.mem_iff_getElem?.2 ⟨j,hj⟩
 have hback:∀ y ∈ s.ws,(y.op=1\/y.op=2\/y.op=21)->y ∈ (s.land i).ws:=fun y hy ho=>by
  obtain⟨j,hj⟩:=List.mem_iff_getElem?.1 hy;refine List.mem_iff_getElem?.2 ⟨j,?_⟩;rw[land_at];split
  ·rename_i e
   subst e;rw[hx] at hj;simp at hj;subst hj;rcases ho with ho|ho|ho<;>contradiction
  ·exact hj
 refine⟨h.nc,h.nn,fun y hy ho=>h.wc y (hmem y hy (by rcases ho with e|e;exact .inl e;exact .inr (.inl e))) ho,fun y hy ho=>h.wn y (hmem y hy (.inr (.inr ho))) ho,fun k hk=>?_,fun k hk=>?_⟩
 ·obtain⟨y,hy,ho,ha⟩:=h.uc k hk;exact⟨y,hback y hy (by rcases ho with e|e;exact .inl e;exact .inr (.inl e)),ho,ha⟩
 ·obtain⟨y,hy,ho,ha⟩:=h.un k hk;exact⟨y,hback y hy (.inr (.inr ho)),ho,ha⟩
theorem land_len (s:Em)(i:Nat):(s.land i).ws.length=s.ws.length:=by simp[Em.land]
theorem pre_land {s s':Em}(h:Pre s s'){i:Nat}(hi:s.ws.length<=i):Pre s (s'.land i):=⟨fun j hj=>by rw[land_at,if_neg (by omega)];exact h.at1 j hj,by rw[land_len];exact h.len,h.ks⟩
theorem lay_last (s:Em)(op a b:Nat):(s.lay op a b).ws[s.ws.length]?=some ⟨op,a,b⟩:=by simp[Em.lay]
theorem gd_fork {f g:Em->Em}(op:Nat)(hf:Gd f)(hg:Gd g)(h1:op≠1)(h2:op≠2)(h3:op≠21):Gd (fun s=>s.fork op f g):=fun s h=>by
 obtain⟨i1,p1⟩:=gd_lay op 0 0 h1 h2 h3 s h;obtain⟨i2,p2⟩:=hf _ i1;obtain⟨i3,p3⟩:=gd_lay 13 0 0 (by decide) (by decide) (by decide) _ i2
 dsimp only at i1 p1 i2 p2 i3 p3
 have hl1:(s.lay op 0 0).ws.length=s.ws.length+1:=by simp[Em.lay]
 have hw1:((f (s.lay op 0 0)).lay 13 0 0).ws[s.ws.length]?=some ⟨op,0,0⟩:=((p2.trans p3).at1 s.ws.length (by omega)).trans (lay_last s op 0 0);have i4:=inv_land i3 hw1 h1 h2 h3;have p4:=pre_land ((p1.trans p2).trans p3) (Nat.le_refl s.ws.length);obtain⟨i5,p5⟩:=hg _ i4;have hl2:=p2.len;have hl3:(((f (s.lay op 0 0)).lay 13 0 0).land s.ws.length).ws.length=(f (s.lay op 0 0)).ws.length+1:=by rw[land_len];simp[Em.lay]
 have hw2:(((f (s.lay op 0 0)).lay 13 0 0).land s.ws.length).ws[(f (s.lay op 0 0)).ws.length]?=some ⟨13,0,0⟩:=by
  rw[land_at,if_neg (by omega)];exact lay_last _ 13 0 0
 have hw3:=(p5.at1 (f (s.lay op 0 0)).ws.length (by omega)).trans hw2;exact⟨inv_land i5 hw3 (by decide) (by decide) (by decide),pre_land (p4.trans p5) (by omega)⟩
theorem gd_clrs (h:Nat):∀ (l:List Int) (i:Nat),Gd (clrs h l i)
 | [],_=>Gd.id
 | x::r,i=>fun s hs=>by
  unfold clrs;by_cases e:x=(h:Int)
  ·rw[if_pos e];obtain⟨a,b⟩:=gd_lay 19 i 0 (by decide) (by decide) (by decide) s hs;obtain⟨c,d⟩:=gd_clrs h r (i+1) _ a;exact⟨c,b.trans d⟩
  ·rw[if_neg e];exact gd_clrs h r (i+1) s hs
theorem gd_bdy (lv:List Int){t:Tr}(ht:∀ ar u,Gd (t ar u))(ar u:Nat):Gd (bdy lv t ar u):=(gd_clrs (ar+1) lv 0).comp (ht (ar+1) u)
theorem gd_srch (lv:List Int){t:Tr}(ht:∀ ar u,Gd (t ar u))(op:Nat)(v:Int)(h1:op≠1)(h2:op≠2)(h3:op≠21)(ar u:Nat):Gd (srch lv t op v ar u):=fun s hs =>
 gd_fork 24 ((((gd_bdy lv ht ar u).comp (gd_lay op s.ws.length 0 h1 h2 h3)).comp (gd_lay 25 0 0 (by decide) (by decide) (by decide))).comp (gd_con v 2 u)) (gd_con (1-v) 2 u) (by decide) (by decide) (by decide) s hs
theorem gd_gath (lv:List Int){t:Tr}(ht:∀ ar u,Gd (t ar u)){f:Nat->Em->Em}(hf:∀ g,Gd (f g))(ar u:Nat):Gd (gath lv t f ar u):=fun s h=>by
 obtain⟨i1,p1⟩:=gd_lay 24 0 0 (by decide) (by decide) (by decide) s h;obtain⟨i2,p2⟩:=(((gd_bdy lv ht ar u).comp (hf s.ws.length)).comp (gd_lay 13 s.ws.length 0 (by decide) (by decide) (by decide))) _ i1
 dsimp only at i1 p1 i2 p2
 have hl1:(s.lay 24 0 0).ws.length=s.ws.length+1:=by simp[Em.lay]
 have hw:=(p2.at1 s.ws.length (by omega)).trans (lay_last s 24 0 0);exact⟨inv_land i2 hw (by decide) (by decide) (by decide),pre_land (p1.trans p2) (Nat.le_refl _)⟩
theorem gd_qua (lv:List Int)(n:Int){a t:Tr}(ha:∀ ar u,Gd (a ar u))(ht:∀ ar u,Gd (t ar u))(ar u:Nat):Gd (qua lv n a t ar u):=fun s hs=>by
 unfold qua;split
 ·exact((ha ar u).comp (gd_srch lv ht 15 0 (by decide) (by decide) (by decide) ar u)) s hs
 ·split
  ·exact((ha ar u).comp (gd_srch lv ht 14 1 (by decide) (by decide) (by decide) ar u)) s hs
  ·split
   ·exact(((ha ar u).comp (gd_con 0 1 u)).comp (gd_gath lv ht (fun g=>((gd_lay 14 g 0 (by decide) (by decide) (by decide)).comp (gd_con 1 1 (u+1))).comp (gd_lay 6 0 0 (by decide) (by decide) (by decide))) ar (u+1))) s hs
   ·split
    ·exact(((ha ar u).comp (gd_con 0 1 u)).comp (gd_gath lv ht (fun g=>gd_lay 6 0 0 (by decide) (by decide) (by decide)) ar (u+1))) s hs
    ·exact(((((ha ar u).comp (gd_con 0 1 u)).comp (gd_con 0 2 (u+1))).comp (gd_gath lv ht (fun g=>gd_lay 26 (n-5).toNat 0 (by decide) (by decide) (by decide)) ar (u+2))).comp (gd_lay 27 0 0 (by decide) (by decide) (by decide))) s hs
theorem gd_seq:∀ (T:List Tr) (i ar u:Nat),(∀ t ∈ T,∀ ar u,Gd (t ar u))->Gd (seqT T i ar u)
 | [],_,_,_,_=>Gd.id
 | t::r,i,ar,u,h=>(h t (List.mem_cons_self ..) ar (u+i)).comp (gd_seq r (i+1) ar u (fun x hx=>h x (List.mem_cons_of_mem _ hx)))
theorem bar_ne (k:Int):barN k≠1/\barN k≠2/\barN k≠21:=by
 unfold barN
 repeat' split
 all_goals decide
theorem gd_opr (k n:Int)(nm:List UInt8)(kk:List Int):Gd (opr k n nm kk):=fun s hs=>by
 unfold opr;split
 ·exact gd_lay 11 0 _ (by decide) (by decide) (by decide) s hs
 ·split
  ·exact((gd_lay 11 0 (kk.getD 0 0).toNat (by decide) (by decide) (by decide)).comp (gd_lay 5 0 0 (by decide) (by decide) (by decide))) s hs
  ·split
   ·exact gd_lay 12 0 0 (by decide) (by decide) (by decide) s hs
   ·split
    ·exact gd_lay 12 0 1 (by decide) (by decide) (by decide) s hs
    ·split
     ·exact gd_lay 16 _ 0 (by decide) (by decide) (by decide) s hs
     ·split
      ·exact gd_nam nm s hs
      ·split
       ·exact gd_lay 23 _ 0 (by decide) (by decide) (by decide) s hs
       ·exact gd_lay _ 0 0 (bar_ne k).1 (bar_ne k).2.1 (bar_ne k).2.2 s hs
theorem gd_get {T:List Tr}(h:∀ t ∈ T,∀ ar u,Gd (t ar u))(i ar u:Nat):Gd (T.getD i noT ar u):=by
 by_cases hi:i<T.length
 ·rw[List.getD_eq_getElem?_getD,List.getElem?_eq_getElem hi];exact h _ (List.getElem_mem hi) ar u
 ·rw[List.getD_eq_getElem?_getD,List.getElem?_eq_none (by omega)];exact Gd.id
theorem gd_prt (lv:List Int)(k n:Int)(nm:List UInt8)(kk:List Int){T:List Tr}(h:∀ t ∈ T,∀ ar u,Gd (t ar u))(ar u:Nat):Gd (prt lv k n nm kk T ar u):=fun s hs=>by
 unfold prt;split
 ·exact gd_con n 1 u s hs
 split
 ·exact gd_con n 2 u s hs
 split
 ·exact gd_vtx n u s hs
 split
 ·exact gd_var _ u s hs
 split
 ·exact((gd_get h 0 ar u).comp (gd_fork 14 (gd_get h 1 ar u) (gd_con 0 2 u) (by decide) (by decide) (by decide))) s hs
 split
 ·exact((gd_get h 0 ar u).comp (gd_fork 15 (gd_get h 1 ar u) (gd_con 1 2 u) (by decide) (by decide) (by decide))) s hs
 split
 ·exact((gd_get h 0 ar u).comp (gd_fork 14 (gd_get h 1 ar u) (gd_get h 2 ar u) (by decide) (by decide) (by decide))) s hs
 split
 ·have hs1:Inv (s.cel n.toNat (kk.getD 0 0)):=⟨hs.nc,hs.nn,hs.wc,hs.wn,hs.uc,hs.un⟩
  have p0:Pre s (s.cel n.toNat (kk.getD 0 0)):=⟨fun _ _=>rfl,Nat.le_refl _,by simp[Em.cel]⟩
  obtain⟨i1,p1⟩:=gd_lay 17 n.toNat 0 (by decide) (by decide) (by decide) _ hs1;obtain⟨i2,p2⟩:=((gd_get h 0 ar u).comp (gd_lay 18 n.toNat 0 (by decide) (by decide) (by decide))) _ i1
  dsimp only at i1 p1 i2 p2
  have hl1:((s.cel n.toNat (kk.getD 0 0)).lay 17 n.toNat 0).ws.length=s.ws.length+1:=by simp[Em.lay,Em.cel]
  have hw:=(p2.at1 s.ws.length (by omega)).trans (lay_last (s.cel n.toNat (kk.getD 0 0)) 17 n.toNat 0);exact⟨inv_land i2 hw (show (17:Nat)≠1 by decide) (show (17:Nat)≠2 by decide) (show (17:Nat)≠21 by decide),pre_land ((p0.trans p1).trans p2) (Nat.le_refl _)⟩
 split
 ·exact gd_qua lv n (fun ar u=>gd_get h 0 ar u) (fun ar u=>gd_get h 1 ar u) ar u s hs
 ·exact((gd_seq T 0 ar u h).comp (gd_opr k n nm kk)) s hs
theorem gd_emF (lv:List Int):∀ (f:Fs),∀ t ∈ emF lv f,∀ ar u,Gd (t ar u)
 | ⟨none⟩=>fun t ht=>by simp[emF] at ht
 | ⟨some ⟨k,n,nm,a,ks,r⟩⟩=>fun t ht ar u=>by
  simp only[emF,List.mem_cons] at ht;rcases ht with rfl|ht
  ·exact gd_prt lv k n nm (kdF ks) (gd_emF lv ks) ar u
  ·exact gd_emF lv r t ht ar u
def hvP (e:Ex)(cells:List Int):Bool:=decide (20000<cells.length)||decide (wgF e.kids (20000-1)<0)
theorem heavy14_c (e:Ex)(ao:Option Addr)(cap ac0:Nat)(cv:Value)(cells:List Int)(w:World)(hc:InA w cv cells)(hcl:cells.length<=maxLen)(hlen:e.kids.len<=maxLen)(hwd:e.kids.wide)(S:SnA w e.kids ao) :
  Calls Tryz.prog 12 #[plV e ao cap cv] w fun x w'=>x=.returned (.bool (hvP e cells))/\Below w.heap.size w w':=by
 obtain⟨W,hW⟩:∃W,W=hvP e cells:=⟨_,rfl⟩
 rw[<-hW];have HW:Hid (W=hvP e cells):=hW;clear hW;obtain⟨ac,cc,hcv,hcx⟩:=hc;subst hcv;clear hcx;have hml:Hid (maxLen=9223372036854775807):=rfl;have hcm:cells.length<=9223372036854775807:=by have:=hml.out;omega
 have B0:Below w.heap.size w (w.alloc (.cells #[.int .i64 e.k,.int .i64 e.n,stv e.nm,.slice ao e.kids.len cap,.slice ac cells.length cc] 37)):=(Below.refl _ w).alloc (Nat.le_refl _) _;have E0:(w.alloc (.cells #[.int .i64 e.k,.int .i64 e.n,stv e.nm,.slice ao e.kids.len cap,.slice ac cells.length cc] 37)).heap[w.heap.size]?=some (.cells #[.int .i64 e.k,.int .i64 e.n,stv e.nm,.slice ao e.kids.len cap,.slice ac cells.length cc] 37):=heap_alloc_new w _;have S0:=SnA.below S B0;rw[plV_out];go_enter Tryz.func12,Tryz.ntmps12;go_upto_region 1 with fail;generalize w.alloc (.cells #[.int .i64 e.k,.int .i64 e.n,stv e.nm,.slice ao e.kids.len cap,.slice ac cells.length cc] 37)=w0 at *;obtain⟨p0,p1,p2,p3,p4,pf⟩:=box5 E0;by_cases h2:20000<cells.length
 ·have hI:(20000:Int)<(cells.length:Int):=by omega
  have HZ:Hid (W=true):=by show W=_;rw[HW.out];simp[hvP,h2]
  clear HW h2;go_wp2;go_ret;rw[HZ.out];exact⟨rfl,B0⟩
 ·have hI:¬(20000:Int)<(cells.length:Int):=by omega
  have HZ:Hid (W=decide (wgF e.kids (20000-1)<0)):=by show W=_;rw[HW.out];simp[hvP,h2]
  have c1:=weighn_ok (e.kids.size+1) e ao cap 20000 w0 (by omega) hlen hwd (by omega) (by omega) S0;rw[exN_out] at c1;generalize wgF e.kids (20000-1)=g at *;clear HW h2;go_wp2_with fail;refine c1.mono ?_;rintro z w1 ⟨rfl,b1⟩;have B1:Below w.heap.size w w1:=B0.trans (b1.mono B0.size);clear c1 p0 p1 p2 p3 p4 pf E0;go_wp2;go_ret;rw[HZ.out];exact⟨rfl,B1⟩
theorem hvE_not {e:Ex}{cells:List Int}(h:hvP e cells=false):cells.length<=20000/\e.kids.size<=20000:=by
 unfold hvP at h;simp only[Bool.or_eq_false_iff,decide_eq_false_iff_not] at h;have h1:=wgF_size e.kids (20000-1) (by omega);omega
theorem ret_highE {k l m:IntKind}{a b c d:Int}(h:a=b):Ending.returned (.tuple #[.int k a,.int l c,.int m d])=.returned (.tuple #[.int k b,.int l c,.int m d]):=by rw[h]
theorem rparts_e (u:Int)(w:World)(h1:0<=u)(h2:u<18446744073709551616) :
  Calls Tryz.prog 25 #[.int .u64 u] w fun e w' =>
   e=.returned (.tuple #[.int .i64 (u / 72057594037927936),.int .i64 (u / 268435456 % 268435456),.int .i64 (u % 268435456)])/\w'=w:=by
 go_enter Tryz.func25,Tryz.ntmps25;go_wp2;go_ret3;exact⟨ret_highE (by omega),rfl⟩
def Lse (w:World)(ao:Option Addr)(xs:List Value):Prop:=xs=[]\/∃b,ao=some ⟨b,0,none⟩/\b<w.heap.size/\∀ j x,xs[j]?=some x->w.cell? ⟨b,j,none⟩=some x
theorem Row.lse {w:World}{o:Nat->Nat}{i:Nat}{e:TypeId}{ao:Option Addr}{n cap:Nat}{xs:List Value}(h:Row w o i e 1 (.slice ao n cap) n xs):Lse w ao xs:=by
 by_cases hn:0<n
 ·obtain⟨g,c,hv,-,-,-,hlt,hc,-⟩:=h.pos hn;simp only[Value.slice.injEq,true_and] at hv;refine .inr ⟨g,hv.1,hlt,fun j x hx=>?_⟩;have hl:=h.len;have hj:j<n*1:=by have:=(List.getElem?_eq_some_iff.1 hx).1;omega
  rw[hc j hj];exact hx
 ·have hl:=h.len;exact .inl (List.eq_nil_of_length_eq_zero (by omega))
def ldI (u:Int):Int:=if u / 72057594037927936=13\/u / 72057594037927936=14\/u / 72057594037927936=15\/u / 72057594037927936=24 then u / 268435456 % 268435456 else if u / 72057594037927936=17 then u % 268435456 else -1
theorem leads_c (u:Int)(w:World)(h1:0<=u)(h2:u<18446744073709551616) :
  Calls Tryz.prog 24 #[.int .u64 u] w fun e w'=>e=.returned (.int .i64 (ldI u))/\w'=w:=by
 have c1:=rparts_e u w h1 h2;unfold ldI;generalize u / 72057594037927936=o at c1 ⊢;generalize u / 268435456 % 268435456=x at c1 ⊢;generalize u % 268435456=y at c1 ⊢;clear h1 h2;go_enter Tryz.func24,Tryz.ntmps24;go_wp2_with fail;refine c1.mono ?_;rintro e w1 ⟨rfl,rfl⟩;clear c1;by_cases e1:o=13
 ·subst e1;go_wp2;go_ret;exact⟨rfl,rfl⟩
 by_cases e2:o=14
 ·subst e2;go_wp2;go_ret;exact⟨rfl,rfl⟩
 by_cases e3:o=15
 ·subst e3;go_wp2;go_ret;exact⟨rfl,rfl⟩
 by_cases e4:o=24
 ·subst e4;go_wp2;go_ret;exact⟨rfl,rfl⟩
 by_cases e5:o=17
 ·subst e5;go_wp2;go_ret;exact⟨rfl,rfl⟩
 ·have f1:(o==13)=false:=by simpa using e1
  have f2:(o==14)=false:=by simpa using e2
  have f3:(o==15)=false:=by simpa using e3
  have f4:(o==24)=false:=by simpa using e4
  have f5:(o==17)=false:=by simpa using e5
  go_wp2;go_ret;exact⟨rfl,rfl⟩
theorem wparts (x:Wo)(hx:x.ok)(w:World):Calls Tryz.prog 25 #[.int .u64 (encW x)] w fun e w'=>e=.returned (.tuple #[.int .i64 (x.op:Nat),.int .i64 (x.a:Nat),.int .i64 (x.b:Nat)])/\w'=w:=by
 have h:=rparts_e (encW x) w (encW_bd hx).1 (encW_bd hx).2;obtain⟨h1,h2,h3⟩:=encW_parts hx;rw[h1,h2,h3] at h;exact h
def ldW (x:Wo):Int:=if x.op=13\/x.op=14\/x.op=15\/x.op=24 then (x.a:Int) else if x.op=17 then (x.b:Int) else -1
theorem wleads (x:Wo)(hx:x.ok)(w:World):Calls Tryz.prog 24 #[.int .u64 (encW x)] w fun e w'=>e=.returned (.int .i64 (ldW x))/\w'=w:=by
 have h:=leads_c (encW x) w (encW_bd hx).1 (encW_bd hx).2;obtain⟨h1,h2,h3⟩:=encW_parts hx;have e:ldI (encW x)=ldW x:=by
  unfold ldI ldW;rw[h1,h2,h3]
  congr 1
  ·apply propext;constructor
   ·intro h;omega
   ·intro h;omega
  ·congr 1
   apply propext;omega
 rw[e] at h;exact h
structure Qle (s t:Em):Prop where
 ws:s.ws.length<=t.ws.length
 dp:s.dp<=t.dp
theorem Qle.refl (s:Em):Qle s s:=⟨Nat.le_refl _,Nat.le_refl _⟩
theorem Qle.trans {a b c:Em}(h:Qle a b)(k:Qle b c):Qle a c:=⟨Nat.le_trans h.ws k.ws,Nat.le_trans h.dp k.dp⟩
theorem qle_lay (s:Em)(op a b:Nat):Qle s (s.lay op a b):=⟨by simp[Em.lay],Nat.le_refl _⟩
theorem qle_push (s:Em)(op a b u:Nat):Qle s (s.push op a b u):=⟨by simp[Em.push],by simp only[Em.push];omega⟩
theorem qle_kc (s:Em)(n:Int):Qle s (s.kc n):=⟨Nat.le_refl _,Nat.le_refl _⟩
theorem qle_kn (s:Em)(x:List UInt8):Qle s (s.kn x):=⟨Nat.le_refl _,Nat.le_refl _⟩
theorem qle_con (s:Em)(n:Int)(kd u:Nat):Qle s (s.con n kd u):=(qle_kc s n).trans (qle_push _ 1 _ kd u)
theorem qle_land (s:Em)(i:Nat):Qle s (s.land i):=⟨by simp[Em.land],Nat.le_refl _⟩
theorem qle_cel (s:Em)(i:Nat)(k:Int):Qle s (s.cel i k):=⟨Nat.le_refl _,Nat.le_refl _⟩
def Qgr (f:Em->Em):Prop:=∀ s,Qle s (f s)
theorem Qgr.id:Qgr (fun s=>s):=Qle.refl
theorem qgr_fork {f g:Em->Em}(op:Nat)(hf:Qgr f)(hg:Qgr g):Qgr (fun s=>s.fork op f g):=fun s =>
 ((((qle_lay s op 0 0).trans (hf _)).trans (qle_lay _ 13 0 0)).trans (qle_land _ _)).trans ((hg _).trans (qle_land _ _))
theorem qgr_clrs (h:Nat):∀ (l:List Int) (i:Nat),Qgr (clrs h l i)
 | [],_=>Qgr.id
 | x::r,i=>fun s=>by
  unfold clrs;by_cases e:x=(h:Int)
  ·rw[if_pos e];exact(qle_lay s 19 i 0).trans (qgr_clrs h r (i+1) _)
  ·rw[if_neg e];exact qgr_clrs h r (i+1) s
def Qtr (t:Tr):Prop:=∀ ar u,Qgr (t ar u)
theorem qgr_bdy (lv:List Int){t:Tr}(ht:Qtr t)(ar u:Nat):Qgr (bdy lv t ar u):=fun s=>(qgr_clrs (ar+1) lv 0 s).trans (ht (ar+1) u _)
theorem qgr_srch (lv:List Int){t:Tr}(ht:Qtr t)(op:Nat)(v:Int)(ar u:Nat):Qgr (srch lv t op v ar u):=fun s =>
 qgr_fork 24 (f:=fun x=>(((bdy lv t ar u x).lay op s.ws.length 0).lay 25 0 0).con v 2 u) (fun x=>(((qgr_bdy lv ht ar u x).trans (qle_lay _ _ _ _)).trans (qle_lay _ _ _ _)).trans (qle_con _ _ _ _)) (fun x=>qle_con _ _ _ _) s
theorem qgr_gath (lv:List Int){t:Tr}(ht:Qtr t){f:Nat->Em->Em}(hf:∀ g,Qgr (f g))(ar u:Nat):Qgr (gath lv t f ar u):=fun s =>
 ((((qle_lay s 24 0 0).trans (qgr_bdy lv ht ar u _)).trans (hf _ _)).trans (qle_lay _ _ _ _)).trans (qle_land _ _)
theorem qgr_qua (lv:List Int)(n:Int){a t:Tr}(ha:Qtr a)(ht:Qtr t)(ar u:Nat):Qgr (qua lv n a t ar u):=fun s=>by
 unfold qua;split
 ·exact(ha ar u s).trans (qgr_srch lv ht 15 0 ar u _)
 split
 ·exact(ha ar u s).trans (qgr_srch lv ht 14 1 ar u _)
 split
 ·exact((ha ar u s).trans (qle_con _ _ _ _)).trans (qgr_gath lv ht (f:=fun g x=>((x.lay 14 g 0).con 1 1 (u+1)).lay 6 0 0) (fun g x=>((qle_lay _ _ _ _).trans (qle_con _ _ _ _)).trans (qle_lay _ _ _ _)) ar (u+1) _)
 split
 ·exact((ha ar u s).trans (qle_con _ _ _ _)).trans (qgr_gath lv ht (f:=fun _ x=>x.lay 6 0 0) (fun g x=>qle_lay _ _ _ _) ar (u+1) _)
 ·exact((((ha ar u s).trans (qle_con _ _ _ _)).trans (qle_con _ _ _ _)).trans (qgr_gath lv ht (f:=fun _ x=>x.lay 26 (n-5).toNat 0) (fun g x=>qle_lay _ _ _ _) ar (u+2) _)).trans (qle_lay _ _ _ _)
theorem qgr_seq:∀ (T:List Tr) (i ar u:Nat),(∀ t ∈ T,Qtr t)->Qgr (seqT T i ar u)
 | [],_,_,_,_=>Qgr.id
 | t::r,i,ar,u,h=>fun s=>(h t (List.mem_cons_self ..) ar (u+i) s).trans (qgr_seq r (i+1) ar u (fun x hx=>h x (List.mem_cons_of_mem _ hx)) _)
theorem qgr_opr (k n:Int)(nm:List UInt8)(kk:List Int):Qgr (opr k n nm kk):=fun s=>by
 unfold opr
 repeat' split
 all_goals first|exact qle_lay _ _ _ _|exact(qle_lay _ _ _ _).trans (qle_lay _ _ _ _)|exact(qle_kn _ _).trans (qle_lay _ _ _ _)
theorem qtr_get {T:List Tr}(h:∀ t ∈ T,Qtr t)(i:Nat):Qtr (T.getD i noT):=by
 by_cases hi:i<T.length
 ·rw[List.getD_eq_getElem?_getD,List.getElem?_eq_getElem hi];exact h _ (List.getElem_mem hi)
 ·rw[List.getD_eq_getElem?_getD,List.getElem?_eq_none (by omega)];exact fun _ _=>Qgr.id
theorem qtr_prt (lv:List Int)(k n:Int)(nm:List UInt8)(kk:List Int){T:List Tr}(h:∀ t ∈ T,Qtr t):Qtr (prt lv k n nm kk T):=fun ar u s=>by
 have q0:=qtr_get h 0;have q1:=qtr_get h 1;have q2:=qtr_get h 2;unfold prt;split
 ·exact qle_con _ _ _ _
 split
 ·exact qle_con _ _ _ _
 split
 ·exact(qle_kc _ _).trans (qle_push _ _ _ _ _)
 split
 ·exact qle_push _ _ _ _ _
 split
 ·exact(q0 ar u s).trans (qgr_fork 14 (q1 ar u) (fun x=>qle_con _ _ _ _) _)
 split
 ·exact(q0 ar u s).trans (qgr_fork 15 (q1 ar u) (fun x=>qle_con _ _ _ _) _)
 split
 ·exact(q0 ar u s).trans (qgr_fork 14 (q1 ar u) (q2 ar u) _)
 split
 ·exact((((qle_cel _ _ _).trans (qle_lay _ _ _ _)).trans (q0 ar u _)).trans (qle_lay _ _ _ _)).trans (qle_land _ _)
 split
 ·exact qgr_qua lv n q0 q1 ar u s
 ·exact(qgr_seq T 0 ar u h s).trans (qgr_opr k n nm kk _)
theorem qtr_emF (lv:List Int):∀ (f:Fs),∀ t ∈ emF lv f,Qtr t
 | ⟨none⟩=>fun t ht=>by simp[emF] at ht
 | ⟨some ⟨k,n,nm,a,ks,r⟩⟩=>fun t ht=>by
  simp only[emF,List.mem_cons] at ht;rcases ht with rfl|ht
  ·exact qtr_prt lv k n nm (kdF ks) (qtr_emF lv ks)
  ·exact qtr_emF lv r t ht
abbrev StQ:=List Nat × Nat
abbrev ScQ:=Wo->Nat->StQ->Option (List (Nat × StQ))
def SegQ (sc:ScQ)(ex:Nat × StQ->Prop)(W:List Wo)(p q:Nat)(A B:StQ):Prop :=
 p<=q/\∃σ:Nat->StQ,σ p=A/\σ q=B/\(∀ i,p<=i->i<q->∃x,W[i]?=some x/\∃l,sc x i (σ i)=some l/\∀ y ∈ l,((p<=y.1/\y.1<=q/\y.2=σ y.1)\/ex y))/\∀ Kn:Nat->Prop,(∀ i x l y,p<=i->i<q->W[i]?=some x->sc x i (σ i)=some l->y ∈ l->Kn i->Kn y.1)->Kn p->Kn q
theorem SegQ.none (sc:ScQ)(ex:Nat × StQ->Prop)(W:List Wo)(p:Nat)(A:StQ):SegQ sc ex W p p A A:=⟨Nat.le_refl _,fun _=>A,rfl,rfl,fun i a b=>by omega,fun _ _ h=>h⟩
theorem SegQ.one {sc:ScQ}{ex:Nat × StQ->Prop}{W:List Wo}{p:Nat}{A B:StQ}{x:Wo}(hx:W[p]?=some x)(h:∃l,sc x p A=some l/\(p+1,B) ∈ l/\∀ y ∈ l,y=(p+1,B)\/ex y):SegQ sc ex W p (p+1) A B:=by
 obtain⟨l,h1,h0,h2⟩:=h;refine⟨by omega,fun i=>if i=p then A else B,by simp,by simp,fun i a b=>?_,fun Kn hc hp=>hc p x l (p+1,B) (Nat.le_refl _) (by omega) hx (by simpa using h1) h0 hp⟩;obtain rfl:i=p:=by omega
 refine⟨x,hx,l,by simpa using h1,fun y hy=>?_⟩;rcases h2 y hy with rfl|h3
 ·exact .inl ⟨by show i<=i+1;omega,Nat.le_refl _,by simp⟩
 ·exact .inr h3
theorem SegQ.trans {sc:ScQ}{ex:Nat × StQ->Prop}{W:List Wo}{p q r:Nat}{A B C:StQ}(h:SegQ sc ex W p q A B)(k:SegQ sc ex W q r B C):SegQ sc ex W p r A C:=by
 obtain⟨h1,σ,h2,h3,h4,h8⟩:=h;obtain⟨k1,τ,k2,k3,k4,k8⟩:=k;have hv:∀ i,i<=q->(if i<q then σ i else τ i)=σ i:=fun i hi=>by
  by_cases e:i<q
  ·rw[if_pos e]
  ·obtain rfl:i=q:=by omega
   rw[if_neg e,k2,h3]
 have hw:∀ i,q<=i->(if i<q then σ i else τ i)=τ i:=fun i hi=>by rw[if_neg (by omega)]
 refine⟨by omega,fun i=>if i<q then σ i else τ i,?_,?_,fun i a b=>?_,fun Kn hc hp=>k8 Kn (fun i x l y a b c d e f=>hc i x l y (by omega) b c (by show sc x i (if i<q then σ i else τ i)=some l;rw[hw i a];exact d) e f)
  (h8 Kn (fun i x l y a b c d e f=>hc i x l y a (by omega) c (by show sc x i (if i<q then σ i else τ i)=some l;rw[hv i (by omega)];exact d) e f) hp)⟩
 ·show (if p<q then σ p else τ p)=A;rw[hv p h1];exact h2
 ·show (if r<q then σ r else τ r)=C;rw[hw r k1];exact k3
 ·show ∃x,W[i]?=some x/\∃l,sc x i (if i<q then σ i else τ i)=some l/\∀ y ∈ l,(p<=y.1/\y.1<=r/\y.2=(if y.1<q then σ y.1 else τ y.1))\/ex y;by_cases e:i<q
  ·rw[hv i (by omega)];obtain⟨x,h5,l,h6,h7⟩:=h4 i a e;refine⟨x,h5,l,h6,fun y hy=>?_⟩;rcases h7 y hy with ⟨a1,a2,a3⟩|h8
   ·exact .inl ⟨a1,by omega,by rw[hv _ a2];exact a3⟩
   ·exact .inr h8
  ·rw[hw i (by omega)];obtain⟨x,h5,l,h6,h7⟩:=k4 i (by omega) b;refine⟨x,h5,l,h6,fun y hy=>?_⟩;rcases h7 y hy with ⟨a1,a2,a3⟩|h8
   ·exact .inl ⟨by omega,a2,by rw[hw _ a1];exact a3⟩
   ·exact .inr h8
theorem SegQ.fork {sc:ScQ}{ex:Nat × StQ->Prop}{W:List Wo}{i j r:Nat}{A A1 A2 B:StQ}{x:Wo}(hx:W[i]?=some x)(h0:sc x i A=some [(i+1,A1),(j+1,A2)])(h1:SegQ sc (fun y=>ex y\/y=(i,A)) W (i+1) j A1 B){z:Wo}(hz:W[j]?=some z)(h2:sc z j B=some [(r,B)])(h3:SegQ sc ex W (j+1) r A2 B):SegQ sc ex W i r A B:=by
 obtain⟨a1,σ,a2,a3,a4,-⟩:=h1;obtain⟨b1,τ,b2,b3,b4,b8⟩:=h3;refine⟨by omega,fun k=>if k=i then A else if k<=j then σ k else τ k,by simp,?_,fun k c d=>?_,fun Kn hc hp=>b8 Kn (fun k x l y a b c d e f=>hc k x l y (by omega) b c (by show sc x k (if k=i then A else if k<=j then σ k else τ k)=some l;rw[if_neg (by omega),if_neg (by omega)];exact d) e f)
  (hc i x _ (j+1,A2) (Nat.le_refl _) (by omega) hx (by show sc x i (if i=i then A else if i<=j then σ i else τ i)=_;rw[if_pos rfl];exact h0) (by simp) hp)⟩
 ·show (if r=i then A else if r<=j then σ r else τ r)=B;rw[if_neg (by omega),if_neg (by omega)];exact b3
 ·show ∃x,W[k]?=some x/\∃l,sc x k (if k=i then A else if k<=j then σ k else τ k)=some l/\∀ y ∈ l,(i<=y.1/\y.1<=r/\y.2=(if y.1=i then A else if y.1<=j then σ y.1 else τ y.1))\/ex y;by_cases e1:k=i
  ·subst e1;rw[if_pos rfl];refine⟨x,hx,_,h0,fun y hy=>.inl ?_⟩;simp only[List.mem_cons,List.not_mem_nil,or_false] at hy;rcases hy with rfl|rfl
   ·exact⟨by show k<=k+1;omega,by show k+1<=r;omega,by show A1=_;rw[if_neg (by omega),if_pos (by omega)];exact a2.symm⟩
   ·exact⟨by show k<=j+1;omega,by show j+1<=r;omega,by show A2=_;rw[if_neg (by omega),if_neg (by omega)];exact b2.symm⟩
  ·rw[if_neg e1];by_cases e2:k<j
   ·rw[if_pos (by omega)];obtain⟨x,h5,l,h6,h7⟩:=a4 k (by omega) e2;refine⟨x,h5,l,h6,fun y hy=>?_⟩;rcases h7 y hy with ⟨g1,g2,g3⟩|h8|h8
    ·exact .inl ⟨by omega,by omega,by rw[if_neg (by omega),if_pos g2];exact g3⟩
    ·exact .inr h8
    ·subst h8;exact .inl ⟨Nat.le_refl _,by show i<=r;omega,by simp⟩
   ·by_cases e3:k=j
    ·subst e3;rw[if_pos (Nat.le_refl _),a3];refine⟨z,hz,_,h2,fun y hy=>.inl ?_⟩;simp only[List.mem_cons,List.not_mem_nil,or_false] at hy;subst hy;exact⟨by show i<=r;omega,Nat.le_refl _,by show B=_;rw[if_neg (by omega),if_neg (by omega)];exact b3.symm⟩
    ·rw[if_neg (by omega)];obtain⟨x,h5,l,h6,h7⟩:=b4 k (by omega) d;refine⟨x,h5,l,h6,fun y hy=>?_⟩;rcases h7 y hy with ⟨g1,g2,g3⟩|h8
     ·exact .inl ⟨by omega,g2,by rw[if_neg (by omega),if_neg (by omega)];exact g3⟩
     ·exact .inr h8
theorem SegQ.loop {sc:ScQ}{ex:Nat × StQ->Prop}{W:List Wo}{i j:Nat}{A A1 B C:StQ}{x:Wo}(hx:W[i]?=some x)(h0:sc x i A=some [(i+1,A1),(j+1,B)])(h1:SegQ sc (fun y=>ex y\/y=(i,A)) W (i+1) j A1 C){z:Wo}(hz:W[j]?=some z)(h2:sc z j C=some [(i,A)]):SegQ sc ex W i (j+1) A B:=by
 obtain⟨a1,σ,a2,a3,a4,-⟩:=h1;refine⟨by omega,fun k=>if k=i then A else if k<=j then σ k else B,by simp,?_,fun k c d=>?_,fun Kn hc hp =>
  hc i x _ (j+1,B) (Nat.le_refl _) (by omega) hx (by show sc x i (if i=i then A else if i<=j then σ i else B)=_;rw[if_pos rfl];exact h0) (by simp) hp⟩
 ·show (if j+1=i then A else if j+1<=j then σ (j+1) else B)=B;rw[if_neg (by omega),if_neg (by omega)]
 ·show ∃x,W[k]?=some x/\∃l,sc x k (if k=i then A else if k<=j then σ k else B)=some l/\∀ y ∈ l,(i<=y.1/\y.1<=j+1/\y.2=(if y.1=i then A else if y.1<=j then σ y.1 else B))\/ex y;by_cases e1:k=i
  ·subst e1;rw[if_pos rfl];refine⟨x,hx,_,h0,fun y hy=>.inl ?_⟩;simp only[List.mem_cons,List.not_mem_nil,or_false] at hy;rcases hy with rfl|rfl
   ·exact⟨by show k<=k+1;omega,by show k+1<=j+1;omega,by show A1=_;rw[if_neg (by omega),if_pos (by omega)];exact a2.symm⟩
   ·exact⟨by show k<=j+1;omega,Nat.le_refl _,by show B=_;rw[if_neg (by omega),if_neg (by omega)]⟩
  ·rw[if_neg e1];by_cases e2:k<j
   ·rw[if_pos (by omega)];obtain⟨x,h5,l,h6,h7⟩:=a4 k (by omega) e2;refine⟨x,h5,l,h6,fun y hy=>?_⟩;rcases h7 y hy with ⟨g1,g2,g3⟩|h8|h8
    ·exact .inl ⟨by omega,by omega,by rw[if_neg (by omega),if_pos g2];exact g3⟩
    ·exact .inr h8
    ·subst h8;exact .inl ⟨Nat.le_refl _,by show i<=j+1;omega,by simp⟩
   ·obtain rfl:k=j:=by omega
    rw[if_pos (Nat.le_refl _),a3];refine⟨z,hz,_,h2,fun y hy=>.inl ?_⟩;simp only[List.mem_cons,List.not_mem_nil,or_false] at hy;subst hy;exact⟨Nat.le_refl _,by show i<=k+1;omega,by simp⟩
structure ScsQ (nq:Nat)(kc:Nat->Nat)(sc:ScQ):Prop where
 w1:∀ a b k l r,l.length+1<=1024->sc ⟨1,a,b⟩ k (l,r)=some [(k+1,(l++[b],r))]
 w2:∀ a b k l r,l.length+1<=1024->sc ⟨2,a,b⟩ k (l,r)=some [(k+1,(l++[3],r))]
 w3:∀ a b k l r,l.length+1<=1024->a<r->sc ⟨3,a,b⟩ k (l,r)=some [(k+1,(l++[3],r))]
 w4:∀ a b k l r,l.length+1<=1024->sc ⟨4,a,b⟩ k (l++[1],r)=some [(k+1,(l++[1],r))]
 w5:∀ a b k l r,l.length+1<=1024->sc ⟨5,a,b⟩ k (l++[2],r)=some [(k+1,(l++[2],r))]
 w6:∀ o a b k l r,6<=o->o<=10->l.length+2<=1024->sc ⟨o,a,b⟩ k (l++[1,1],r)=some [(k+1,(l++[1],r))]
 w11:∀ a b k l r,l.length+2<=1024->sc ⟨11,a,b⟩ k (l++[b,b],r)=some [(k+1,(l++[2],r))]
 w12:∀ a b k l r,l.length+2<=1024->sc ⟨12,a,b⟩ k (l++[1,1],r)=some [(k+1,(l++[2],r))]
 w13:∀ a b k s,sc ⟨13,a,b⟩ k s=some [(a,s)]
 w14:∀ o a b k l r,o=14\/o=15->l.length+1<=1024->sc ⟨o,a,b⟩ k (l++[2],r)=some [(k+1,(l,r)),(a,(l,r))]
 w16a:∀ a b k l r,a=1\/a=2->l.length+2<=1024->sc ⟨16,a,b⟩ k (l++[3,3],r)=some [(k+1,(l++[2],r))]
 w16b:∀ b k l r,l.length+2<=1024->sc ⟨16,3,b⟩ k (l++[3,3],r)=some [(k+1,(l++[1],r))]
 w16c:∀ b k l r,l.length+1<=1024->sc ⟨16,10,b⟩ k (l++[3],r)=some [(k+1,(l++[3],r))]
 w16d:∀ a b k l r,4<=a->a<=9->l.length+1<=1024->sc ⟨16,a,b⟩ k (l++[3],r)=some [(k+1,(l++[1],r))]
 w17:∀ a b k l r,l.length+1<=1024->sc ⟨17,a,b⟩ k (l,r)=some [(k+1,(l,r)),(b,(l++[kc a],r))]
 w18:∀ a b k l r,l.length+1<=1024->sc ⟨18,a,b⟩ k (l++[kc a],r)=some [(k+1,(l++[kc a],r))]
 w19:∀ a b k l r,l.length<=1024->sc ⟨19,a,b⟩ k (l,r)=some [(k+1,(l,r))]
 w20:∀ o a b k l r,o=20\/o=21->l.length<=1024->r<nq->sc ⟨o,a,b⟩ k (l,r)=some [(k+1,(l,r+1))]
 w22:∀ a b k l r,l.length+1<=1024->r<nq->sc ⟨22,a,b⟩ k (l++[3],r)=some [(k+1,(l,r+1))]
 w23:∀ a b k l r,l.length+a<=1024->r<nq->sc ⟨23,a,b⟩ k (l++List.replicate a 3,r)=some [(k+1,(l,r+1))]
 w24:∀ a b k l r,l.length<=1024->0<r->sc ⟨24,a,b⟩ k (l,r)=some [(k+1,(l,r)),(a,(l,r-1))]
 w25:∀ a b k l r,l.length<=1024->0<r->sc ⟨25,a,b⟩ k (l,r)=some [(k+1,(l,r-1))]
 w26:∀ a b k l r,l.length+3<=1024->sc ⟨26,a,b⟩ k (l++[1,2,1],r)=some [(k+1,(l++[1,2],r))]
 w27:∀ a b k l r,l.length+1<=1024->sc ⟨27,a,b⟩ k (l++[2],r)=some [(k+1,(l,r))]
def SgQ (sc:ScQ)(ex:Nat × StQ->Prop)(f:Em->Em)(A B:StQ):Prop:=∀ s,Inv s->(f s).dp<=1024->A.1.length<=1024 ->
 B.1.length<=1024/\∀ W:List Wo,(∀ i,s.ws.length<=i->i<(f s).ws.length->W[i]?=(f s).ws[i]?)->SegQ sc ex W s.ws.length (f s).ws.length A B
theorem SgQ.id (sc:ScQ)(ex:Nat × StQ->Prop)(A:StQ):SgQ sc ex (fun s=>s) A A:=fun s _ _ h=>⟨h,fun W _=>SegQ.none sc ex W _ A⟩
theorem SgQ.comp {sc:ScQ}{ex:Nat × StQ->Prop}{f g:Em->Em}{A B C:StQ}(h:SgQ sc ex f A B)(k:SgQ sc ex g B C)(hf:Gd f)(hg:Gd g)(qg:Qgr g):SgQ sc ex (fun s=>g (f s)) A C:=fun s hs hd hA=>by
 obtain⟨i1,p1⟩:=hf s hs;obtain⟨i2,p2⟩:=hg _ i1;obtain⟨b1,c1⟩:=h s hs (Nat.le_trans (qg (f s)).dp hd) hA;obtain⟨b2,c2⟩:=k (f s) i1 hd b1;refine⟨b2,fun W hW=>?_⟩;have l1:=p1.len;have l2:=p2.len;exact(c1 W (fun i a b=>(hW i a (Nat.lt_of_lt_of_le b l2)).trans (p2.at1 i b))).trans (c2 W (fun i a b=>hW i (by omega) b))
theorem SgQ.word {sc:ScQ}{ex:Nat × StQ->Prop}{f:Em->Em}{A B:StQ}(h:∀ s,∃x,(f s).ws=s.ws++[x]/\((f s).dp<=1024->A.1.length<=1024->B.1.length<=1024/\∃l,sc x s.ws.length A=some l/\(s.ws.length+1,B) ∈ l/\∀ y ∈ l,y=(s.ws.length+1,B)\/ex y)):SgQ sc ex f A B:=fun s hs hd hA=>by
 obtain⟨x,h1,h2⟩:=h s;obtain⟨h3,h4⟩:=h2 hd hA;refine⟨h3,fun W hW=>?_⟩;have hl:(f s).ws.length=s.ws.length+1:=by rw[h1];simp
 rw[hl];refine SegQ.one (x:=x) ?_ h4;rw[hW _ (Nat.le_refl _) (by omega),h1];simp
theorem SgQ.lay {sc:ScQ}{ex:Nat × StQ->Prop}{A B:StQ}(op a b:Nat)(h:A.1.length<=1024->B.1.length<=1024/\∀ k,sc ⟨op,a,b⟩ k A=some [(k+1,B)]):SgQ sc ex (fun s=>s.lay op a b) A B:=SgQ.word fun s=>⟨⟨op,a,b⟩,rfl,fun _ hA=>⟨(h hA).1,_,(h hA).2 _,.head _,fun y hy=>by simp at hy;exact .inl hy⟩⟩
theorem SgQ.con {nq:Nat}{kc:Nat->Nat}{sc:ScQ}(H:ScsQ nq kc sc){ex:Nat × StQ->Prop}(n:Int)(kd:Nat)(l:List Nat)(r:Nat):SgQ sc ex (fun s=>s.con n kd l.length) (l,r) (l++[kd],r):=SgQ.word fun s=>⟨⟨1,s.cs.idxOf n,kd⟩,rfl,fun hd _=>by
 have h1:l.length+1<=1024:=by
  have:(s.con n kd l.length).dp=max s.dp (l.length+1):=rfl
  omega
 exact⟨by simp;omega,_,H.w1 _ _ _ _ _ h1,.head _,fun y hy=>by simp at hy;exact .inl hy⟩⟩
theorem SgQ.vtx {nq:Nat}{kc:Nat->Nat}{sc:ScQ}(H:ScsQ nq kc sc){ex:Nat × StQ->Prop}(n:Int)(l:List Nat)(r:Nat):SgQ sc ex (fun s=>(s.kc n).push 2 (s.cs.idxOf n) 0 l.length) (l,r) (l++[3],r):=SgQ.word fun s=>⟨⟨2,s.cs.idxOf n,0⟩,rfl,fun hd _=>by
 have h1:l.length+1<=1024:=by
  have:((s.kc n).push 2 (s.cs.idxOf n) 0 l.length).dp=max s.dp (l.length+1):=rfl
  omega
 exact⟨by simp;omega,_,H.w2 _ _ _ _ _ h1,.head _,fun y hy=>by simp at hy;exact .inl hy⟩⟩
theorem SgQ.var {nq:Nat}{kc:Nat->Nat}{sc:ScQ}(H:ScsQ nq kc sc){ex:Nat × StQ->Prop}(a:Nat)(l:List Nat)(r:Nat)(ha:a<r):SgQ sc ex (fun s=>s.push 3 a 0 l.length) (l,r) (l++[3],r):=SgQ.word fun s=>⟨⟨3,a,0⟩,rfl,fun hd _=>by
 have h1:l.length+1<=1024:=by
  have:(s.push 3 a 0 l.length).dp=max s.dp (l.length+1):=rfl
  omega
 exact⟨by simp;omega,_,H.w3 _ _ _ _ _ h1 ha,.head _,fun y hy=>by simp at hy;exact .inl hy⟩⟩
theorem SgQ.nam {nq:Nat}{kc:Nat->Nat}{sc:ScQ}(H:ScsQ nq kc sc){ex:Nat × StQ->Prop}(x:List UInt8)(l:List Nat)(r:Nat)(hr:r<nq):SgQ sc ex (fun s=>(s.kn x).lay 21 (s.ns.idxOf x) 0) (l,r) (l,r+1):=SgQ.word fun s=>⟨⟨21,s.ns.idxOf x,0⟩,rfl,fun _ hA=>⟨hA,_,H.w20 _ _ _ _ _ _ (.inr rfl) hA hr,.head _,fun y hy=>by simp at hy;exact .inl hy⟩⟩
theorem fork_ws (op:Nat)(hop:op≠17){f g:Em->Em}(s:Em)(p2:Pre (s.lay op 0 0) (f (s.lay op 0 0)))(p5:Pre (((f (s.lay op 0 0)).lay 13 0 0).land s.ws.length) (g (((f (s.lay op 0 0)).lay 13 0 0).land s.ws.length))) :
  (s.fork op f g).ws[s.ws.length]?=some ⟨op,(f (s.lay op 0 0)).ws.length+1,0⟩ /\
  (s.fork op f g).ws[(f (s.lay op 0 0)).ws.length]?=some ⟨13,(s.fork op f g).ws.length,0⟩ /\
  (∀ i,s.ws.length+1<=i->i<(f (s.lay op 0 0)).ws.length->(s.fork op f g).ws[i]?=(f (s.lay op 0 0)).ws[i]?) /\
  (∀ i,(f (s.lay op 0 0)).ws.length+1<=i->(s.fork op f g).ws[i]?=(g (((f (s.lay op 0 0)).lay 13 0 0).land s.ws.length)).ws[i]?) /\
  (s.fork op f g).ws.length=(g (((f (s.lay op 0 0)).lay 13 0 0).land s.ws.length)).ws.length/\s.ws.length+1<=(f (s.lay op 0 0)).ws.length /\
  (((f (s.lay op 0 0)).lay 13 0 0).land s.ws.length).ws.length=(f (s.lay op 0 0)).ws.length+1/\(f (s.lay op 0 0)).ws.length+1<=(s.fork op f g).ws.length:=by
 have l1:(s.lay op 0 0).ws.length=s.ws.length+1:=by simp[Em.lay]
 have l2:=p2.len;have l3:(((f (s.lay op 0 0)).lay 13 0 0).land s.ws.length).ws.length=(f (s.lay op 0 0)).ws.length+1:=by rw[land_len];simp[Em.lay]
 have l5:=p5.len;have hF:s.fork op f g=(g (((f (s.lay op 0 0)).lay 13 0 0).land s.ws.length)).land (f (s.lay op 0 0)).ws.length:=rfl;have hl:(s.fork op f g).ws.length=(g (((f (s.lay op 0 0)).lay 13 0 0).land s.ws.length)).ws.length:=by rw[hF,land_len]
 have w1:(f (s.lay op 0 0)).ws[s.ws.length]?=some ⟨op,0,0⟩:=(p2.at1 s.ws.length (by omega)).trans (lay_last s op 0 0);generalize f (s.lay op 0 0)=F at *;have m1:∀ i,i<F.ws.length->((F.lay 13 0 0).land s.ws.length).ws[i]?=if s.ws.length=i then (F.ws[i]?).map (fun x=>x.to (F.ws.length+1)) else F.ws[i]?:=fun i hi=>by
  rw[land_at];have e:(F.lay 13 0 0).ws[i]?=F.ws[i]?:=by simp only[Em.lay];exact List.getElem?_append_left hi
  have e2:(F.lay 13 0 0).ws.length=F.ws.length+1:=by simp[Em.lay]
  rw[e,e2]
 have m2:((F.lay 13 0 0).land s.ws.length).ws[F.ws.length]?=some ⟨13,0,0⟩:=by
  rw[land_at,if_neg (by omega)];exact lay_last F 13 0 0
 generalize ((F.lay 13 0 0).land s.ws.length)=M at *;have n1:∀ i,i<F.ws.length+1->(g M).ws[i]?=M.ws[i]?:=fun i hi=>p5.at1 i (by omega);have n2:∀ i,(s.fork op f g).ws[i]?=if F.ws.length=i then ((g M).ws[i]?).map (fun x=>x.to (g M).ws.length) else (g M).ws[i]?:=fun i=>by rw[hF,land_at]
 refine⟨?_,?_,fun i a b=>?_,fun i a=>?_,hl,by omega,l3,by omega⟩
 ·rw[n2,if_neg (by omega),n1 _ (by omega),m1 _ (by omega),if_pos rfl,w1];simp[Wo.to,hop]
 ·rw[n2,if_pos rfl,n1 _ (by omega),m2,hl];simp[Wo.to]
 ·rw[n2,if_neg (by omega),n1 _ (by omega),m1 _ b,if_neg (by omega)]
 ·rw[n2,if_neg (by omega)]
theorem SgQ.fork {sc:ScQ}{ex:Nat × StQ->Prop}{s:Em}{op:Nat}{f g:Em->Em}{A A1 A2 B:StQ}(h17:op≠17)(h1:op≠1)(h2:op≠2)(h3:op≠21)(hf:Gd f)(hg:Gd g)(qg:Qgr g)(hA1:A.1.length<=1024->A1.1.length<=1024)(hA2:A.1.length<=1024->A2.1.length<=1024)
  (h0:A.1.length<=1024->∀ a k,sc ⟨op,a,0⟩ k A=some [(k+1,A1),(a,A2)]) (h13:∀ a k S,sc ⟨13,a,0⟩ k S=some [(a,S)])
  (kf:SgQ sc (fun y=>ex y\/y=(s.ws.length,A)) f A1 B) (kg:SgQ sc ex g A2 B) (hs:Inv s) (hd:(s.fork op f g).dp<=1024) (hA:A.1.length<=1024) :
  B.1.length<=1024/\∀ W:List Wo,(∀ i,s.ws.length<=i->i<(s.fork op f g).ws.length->W[i]?=(s.fork op f g).ws[i]?)->SegQ sc ex W s.ws.length (s.fork op f g).ws.length A B:=by
 obtain⟨i1,p1⟩:=gd_lay op 0 0 h1 h2 h3 s hs;obtain⟨i2,p2⟩:=hf _ i1;obtain⟨i3,p3⟩:=gd_lay 13 0 0 (by decide) (by decide) (by decide) _ i2
 dsimp only at i1 p1 i2 p2 i3 p3
 have l1:(s.lay op 0 0).ws.length=s.ws.length+1:=by simp[Em.lay]
 have hw1:((f (s.lay op 0 0)).lay 13 0 0).ws[s.ws.length]?=some ⟨op,0,0⟩:=((p2.trans p3).at1 s.ws.length (by omega)).trans (lay_last s op 0 0);have i4:=inv_land i3 hw1 h1 h2 h3;obtain⟨i5,p5⟩:=hg _ i4;obtain⟨y1,y2,y3,y4,y5,y6,y7,y8⟩:=fork_ws op h17 s p2 p5;have dg:(g (((f (s.lay op 0 0)).lay 13 0 0).land s.ws.length)).dp<=1024:=hd;have df:(f (s.lay op 0 0)).dp<=1024:=Nat.le_trans (show (f (s.lay op 0 0)).dp<=_ from (qg (((f (s.lay op 0 0)).lay 13 0 0).land s.ws.length)).dp) dg;obtain⟨b1,c1⟩:=kf _ i1 df (hA1 hA);obtain⟨b2,c2⟩:=kg _ i4 dg (hA2 hA);refine⟨b1,fun W hW=>?_⟩;have s1:=c1 W (fun i a b=>by rw[l1] at a;rw[hW i (by omega) (by omega),y3 i a b]);have s2:=c2 W (fun i a b=>by rw[y7] at a;rw[hW i (by omega) (by rw[y5];exact b),y4 i a]);rw[l1] at s1;rw[y7,<-y5] at s2;exact SegQ.fork ((hW _ (Nat.le_refl _) (by omega)).trans y1) (h0 hA _ _) s1 ((hW _ (by omega) (by omega)).trans y2) (h13 _ _ _) s2
theorem SgQ.gath {sc:ScQ}{ex:Nat × StQ->Prop}{s:Em}{f:Em->Em}{A A1 B C:StQ}(hf:Gd f)(hA1:A.1.length<=1024->A1.1.length<=1024)(hB:A.1.length<=1024->B.1.length<=1024)
  (h0:A.1.length<=1024->∀ a k,sc ⟨24,a,0⟩ k A=some [(k+1,A1),(a,B)]) (h13:∀ a k S,sc ⟨13,a,0⟩ k S=some [(a,S)]) (hC:C=A)
  (kf:SgQ sc (fun y=>ex y\/y=(s.ws.length,A)) f A1 C) (hs:Inv s) (hd:(((f (s.lay 24 0 0)).lay 13 s.ws.length 0).land s.ws.length).dp<=1024) (hA:A.1.length<=1024) :
  B.1.length<=1024/\∀ W:List Wo,(∀ i,s.ws.length<=i->i<(((f (s.lay 24 0 0)).lay 13 s.ws.length 0).land s.ws.length).ws.length->W[i]?=(((f (s.lay 24 0 0)).lay 13 s.ws.length 0).land s.ws.length).ws[i]?)->SegQ sc ex W s.ws.length (((f (s.lay 24 0 0)).lay 13 s.ws.length 0).land s.ws.length).ws.length A B:=by
 subst hC;obtain⟨i1,p1⟩:=gd_lay 24 0 0 (by decide) (by decide) (by decide) s hs;obtain⟨i2,p2⟩:=hf _ i1
 dsimp only at i1 p1 i2 p2
 have l1:(s.lay 24 0 0).ws.length=s.ws.length+1:=by simp[Em.lay]
 have l2:=p2.len;have w1:(f (s.lay 24 0 0)).ws[s.ws.length]?=some ⟨24,0,0⟩:=(p2.at1 s.ws.length (by omega)).trans (lay_last s 24 0 0);have df:(f (s.lay 24 0 0)).dp<=1024:=hd;obtain⟨b1,c1⟩:=kf _ i1 df (hA1 hA);refine⟨hB hA,fun W hW=>?_⟩;generalize f (s.lay 24 0 0)=F at *;have e2:(F.lay 13 s.ws.length 0).ws.length=F.ws.length+1:=by simp[Em.lay]
 have e3:((F.lay 13 s.ws.length 0).land s.ws.length).ws.length=F.ws.length+1:=by rw[land_len,e2]
 rw[e3] at hW ⊢;have m1:∀ i,i<F.ws.length->((F.lay 13 s.ws.length 0).land s.ws.length).ws[i]?=if s.ws.length=i then (F.ws[i]?).map (fun x=>x.to (F.ws.length+1)) else F.ws[i]?:=fun i hi=>by
  rw[land_at];have e:(F.lay 13 s.ws.length 0).ws[i]?=F.ws[i]?:=by simp only[Em.lay];exact List.getElem?_append_left hi
  rw[e,e2]
 have m2:((F.lay 13 s.ws.length 0).land s.ws.length).ws[F.ws.length]?=some ⟨13,s.ws.length,0⟩:=by
  rw[land_at,if_neg (by omega)];exact lay_last F 13 s.ws.length 0
 have s1:=c1 W (fun i a b=>by rw[l1] at a;rw[hW i (by omega) (by omega),m1 i b,if_neg (by omega)]);rw[l1] at s1;refine SegQ.loop (x:=⟨24,F.ws.length+1,0⟩) ?_ (h0 hA _ _) s1 ((hW _ (by omega) (by omega)).trans m2) (h13 _ _ _);rw[hW _ (Nat.le_refl _) (by omega),m1 _ (by omega),if_pos rfl,w1];simp[Wo.to]
def skF (K:Nat->Int):Fs->Int->Nat->Prop
 | ⟨none⟩,_,_=>True
 | ⟨some ⟨k,n,nm,a,ks,r⟩⟩,pk,i=>((22<=k/\k<=25) ↔ (pk=21/\i=0))/\(k=26->(kdF ks).getD 0 0=K n.toNat)/\skF K ks k 0/\skF K r pk (i+1)
def skE (K:Nat->Int)(e:Ex):Prop:=¬(22<=e.k/\e.k<=25)/\(e.k=26->(kdF e.kids).getD 0 0=K e.n.toNat)/\skF K e.kids e.k 0
theorem kdF_lenq:∀ f:Fs,(kdF f).length=f.len
 | ⟨none⟩=>rfl
 | ⟨some ⟨k,n,nm,a,ks,r⟩⟩=>by simp only[kdF,Fs.len,List.length_cons,kdF_lenq r]
theorem emF_len (lv:List Int):∀ f:Fs,(emF lv f).length=f.len
 | ⟨none⟩=>rfl
 | ⟨some ⟨k,n,nm,a,ks,r⟩⟩=>by simp only[emF,Fs.len,List.length_cons,emF_len lv r]
theorem doc_lenq {k n:Int}{nm:List UInt8}{len:Nat}(h:docF k n nm len=true):(k=6\/k=7\/k=24->len=1)/\(8<=k->k<=18->len=2)/\(k=19->len=3)/\(k=20->1<=len/\len<=2)/\(k=21->len=2/\1<=n/\n<=6)/\(k=22\/k=23->len=0)/\(k=26->len=1)/\(k=1\/k=2\/k=3\/(5<=k/\k<=26)):=by
 unfold docF at h;refine⟨fun e=>?_,fun e1 e2=>?_,fun e=>?_,fun e=>?_,fun e=>?_,fun e=>?_,fun e=>?_,?_⟩
 ·rcases e with rfl|rfl|rfl<;>simp at h<;>omega
 ·rw[if_neg (by omega),if_neg (by omega),if_neg (by omega),if_neg (by omega),if_pos (by omega)] at h;simp at h;omega
 ·subst e;simp at h;omega
 ·subst e;simp at h;omega
 ·subst e;simp at h;omega
 ·rcases e with rfl|rfl<;>simp at h<;>omega
 ·subst e;simp at h;omega
 ·apply Classical.byContradiction;intro hc
  repeat rw[if_neg (by omega)] at h
  cases h
theorem sameF_kdF:∀ (f g:Fs),sameF f g=true->kdF f=kdF g
 | ⟨none⟩,⟨none⟩,_=>rfl
 | ⟨none⟩,⟨some ⟨k',n',nm',a',ks',r'⟩⟩,h=>by cases h
 | ⟨some ⟨k,n,nm,a,ks,r⟩⟩,⟨none⟩,h=>by cases h
 | ⟨some ⟨k,n,nm,a,ks,r⟩⟩,⟨some ⟨k',n',nm',a',ks',r'⟩⟩,h=>by
  simp only[sameF,Bool.and_eq_true,beq_iff_eq] at h;obtain⟨⟨⟨⟨h1,h2⟩,h3⟩,h4⟩,h5⟩:=h;simp only[kdF,h1,h2,sameF_kdF ks ks' h4,sameF_kdF r r' h5]
theorem sameE_kdE {x y:Ex}(h:sameE x y=true):kdE x=kdE y:=by
 unfold sameE at h;simp only[Bool.and_eq_true,beq_iff_eq] at h;obtain⟨⟨⟨h1,h2⟩,h3⟩,h4⟩:=h;simp only[kdE,h1,h2,sameF_kdF _ _ h4]
theorem wkP_neq (kd:List Int)(i:Nat):wkP kd i≠4:=by
 unfold wkP;cases kd[i]? with
 | none=>simp
 | some v=>simp only;split<;>omega
theorem formP_four {k n:Int}{kd:List Int}:(formP k n kd).2=4 ↔ (22<=k/\k<=25):=by
 have h0:=wkP_neq kd 0;have h1:=wkP_neq kd 1;by_cases hs:22<=k/\k<=25
 ·have hc:k=22\/k=23\/k=24\/k=25:=by omega
  rcases hc with rfl|rfl|rfl|rfl<;>simp[formP]
 ·refine⟨fun h=>?_,fun h=>absurd h hs⟩;exfalso;unfold formP at h;generalize wkP kd 0=a at h h0;generalize wkP kd 1=b at h h1;by_cases e1:k=1
  ·rw[if_pos e1] at h;cases h
  rw[if_neg e1] at h;by_cases e2:k=2
  ·rw[if_pos e2] at h;cases h
  rw[if_neg e2] at h;by_cases e3:k=3\/k=5
  ·rw[if_pos e3] at h;cases h
  rw[if_neg e3] at h;by_cases e6:k=6
  ·rw[if_pos e6] at h;cases h
  rw[if_neg e6] at h;by_cases e7:k=7
  ·rw[if_pos e7] at h;cases h
  rw[if_neg e7] at h;by_cases e8:8<=k/\k<=12
  ·rw[if_pos e8] at h;cases h
  rw[if_neg e8] at h;by_cases e15:k=15\/k=16
  ·rw[if_pos e15] at h;cases h
  rw[if_neg e15] at h;by_cases e17:k=17\/k=18
  ·rw[if_pos e17] at h;cases h
  rw[if_neg e17] at h;by_cases e13:k=13\/k=14
  ·rw[if_pos e13] at h;cases h
  rw[if_neg e13] at h;by_cases e19:k=19
  ·rw[if_pos e19] at h;exact h1 h
  rw[if_neg e19] at h;by_cases e20:k=20
  ·rw[if_pos e20] at h;split at h
   ·cases h
   split at h
   ·cases h
   split at h<;>cases h
  rw[if_neg e20] at h;by_cases e21:k=21
  ·rw[if_pos e21] at h;split at h
   ·cases h
   split at h<;>cases h
  rw[if_neg e21] at h;by_cases e26:k=26
  ·rw[if_pos e26] at h;exact h0 h
  rw[if_neg e26,if_neg (by omega),if_neg (by omega),if_neg (by omega)] at h;cases h
theorem formP_mem {k n:Int}{kd:List Int}(hk:k≠21):∀ v ∈ (formP k n kd).1,v≠4:=by
 have w0:=wkP_neq kd 0;have w1:=wkP_neq kd 1;unfold formP;generalize wkP kd 0=a at w0 ⊢;generalize wkP kd 1=b at w1 ⊢;intro v hv h4;subst h4;by_cases e0:k=1
 ·rw[if_pos e0] at hv;simp at hv
 rw[if_neg e0] at hv;by_cases e1:k=2
 ·rw[if_pos e1] at hv;simp at hv
 rw[if_neg e1] at hv;by_cases e2:k=3\/k=5
 ·rw[if_pos e2] at hv;simp at hv
 rw[if_neg e2] at hv;by_cases e3:k=6
 ·rw[if_pos e3] at hv;simp at hv
 rw[if_neg e3] at hv;by_cases e4:k=7
 ·rw[if_pos e4] at hv;simp at hv
 rw[if_neg e4] at hv;by_cases e5:8<=k/\k<=12
 ·rw[if_pos e5] at hv;simp at hv
 rw[if_neg e5] at hv;by_cases e6:k=15\/k=16
 ·rw[if_pos e6] at hv;simp at hv
 rw[if_neg e6] at hv;by_cases e7:k=17\/k=18
 ·rw[if_pos e7] at hv;simp at hv
 rw[if_neg e7] at hv;by_cases e8:k=13\/k=14
 ·rw[if_pos e8] at hv;simp at hv;omega
 rw[if_neg e8] at hv;by_cases e9:k=19
 ·rw[if_pos e9] at hv;simp at hv;omega
 rw[if_neg e9] at hv;by_cases e20:k=20
 ·rw[if_pos e20] at hv;split at hv
  ·simp at hv
  split at hv
  ·simp at hv
  split at hv<;>simp at hv
 rw[if_neg e20,if_neg hk] at hv;by_cases e26:k=26
 ·rw[if_pos e26] at hv;simp at hv;omega
 rw[if_neg e26] at hv;by_cases e22:k=22\/k=23
 ·rw[if_pos e22] at hv;simp at hv
 rw[if_neg e22] at hv;by_cases e24:k=24
 ·rw[if_pos e24] at hv;simp at hv
 rw[if_neg e24] at hv;by_cases e25:k=25
 ·rw[if_pos e25] at hv;simp at hv
 rw[if_neg e25] at hv;simp at hv
theorem formP_kids {k n:Int}{kd:List Int}(h:(formP k n kd).1=kd)(h0:(formP k n kd).2≠0)(j:Nat)(v:Int)(hv:kd[j]?=some v):v=4 ↔ (k=21/\j=0):=by
 rw[<-h] at hv;by_cases hk:k=21
 ·subst hk;unfold formP at hv;simp at hv;by_cases n1:n=1\/n=2
  ·rw[if_pos n1] at hv;rcases j with _|_|j<;>simp at hv<;>omega
  ·rw[if_neg n1] at hv;by_cases n3:n=3
   ·rw[if_pos n3] at hv;rcases j with _|_|j<;>simp at hv<;>omega
   ·rw[if_neg n3] at hv;rcases j with _|_|j<;>simp at hv<;>omega
 ·have:=formP_mem hk v (List.mem_of_getElem? hv)
  constructor
  ·intro e;exact absurd e this
  ·intro e;exact absurd e.1 hk
theorem rg_kids {cells:List Int}:∀ (f:Fs) (pk:Int) (i ar wi:Nat) (s s':Rg) (kd:List Int),rgF cells f pk i ar wi s=some (s',kd)->∀ x r,f=Fs.ex x r->∃s2 k rest,rgE cells x (spotP pk i ar wi).1 (spotP pk i ar wi).2 s=some (s2,k)/\rgF cells r pk (i+1) ar wi s2=some (s',rest)/\kd=k::rest:=by
 intro f pk i ar wi s s' kd h x r hf;subst hf;rw[rg_ex] at h;cases hx:rgE cells x (spotP pk i ar wi).1 (spotP pk i ar wi).2 s with
 | none=>rw[hx] at h;cases h
 | some z =>
  obtain⟨s2,k⟩:=z;rw[hx] at h;simp only at h;cases hq:rgF cells r pk (i+1) ar wi s2 with
  | none=>rw[hq] at h;cases h
  | some z =>
   obtain⟨s3,rest⟩:=z;rw[hq] at h;injection h with h
   injection h with h1 h2
   subst h1;exact⟨s2,k,rest,rfl,hq,h2.symm⟩
theorem keepP_inv {cells:List Int}{n:Int}{ks:Fs}{ar:Nat}{s s':Rg}(h:keepP cells n ks ar s=some s'):(s.2 n.toNat=none/\s'.2=fun i=>if i=n.toNat then some ks.head else s.2 i)\/(∃x,s.2 n.toNat=some x/\sameE x ks.head=true/\s'=s):=by
 unfold keepP at h;split at h
 ·cases h
 ·split at h
  ·cases h
  ·split at h
   ·rename_i h1
    injection h with h;subst h
    exact .inl ⟨h1,rfl⟩
   ·rename_i x h1
    split at h
    ·rename_i h2
     injection h with h;subst h
     exact .inr ⟨x,h1,h2,rfl⟩
    ·cases h
structure Kgo (s s':Rg):Prop where
 up:∀ i x,s.2 i=some x->s'.2 i=some x
 pos:(∀ i x,s.2 i=some x->1<=kdE x)->∀ i x,s'.2 i=some x->1<=kdE x
theorem Kgo.refl (s:Rg):Kgo s s:=⟨fun _ _ h=>h,fun h=>h⟩
theorem Kgo.trans {a b c:Rg}(h:Kgo a b)(k:Kgo b c):Kgo a c:=⟨fun i x q=>k.up i x (h.up i x q),fun q=>k.pos (h.pos q)⟩
theorem keepP_go {cells:List Int}{n:Int}{ks:Fs}{ar:Nat}{s s':Rg}(h:keepP cells n ks ar s=some s')(hp:1<=kdE ks.head):Kgo s s'/\∃x,s'.2 n.toNat=some x/\kdE x=kdE ks.head:=by
 rcases keepP_inv h with ⟨h1,h2⟩|⟨x,h1,h2,rfl⟩
 ·refine⟨⟨fun i x q=>?_,fun q i x hx=>?_⟩,ks.head,by rw[h2];simp,rfl⟩
  ·rw[h2];simp only;rw[if_neg (by rintro rfl;rw[h1] at q;cases q)];exact q
  ·rw[h2] at hx;simp only at hx;split at hx
   ·injection hx with hx;subst hx;exact hp
   ·exact q i x hx
 ·exact⟨Kgo.refl _,x,h1,sameE_kdE h2⟩
theorem head_kd {ks:Fs}(h:ks.len=1):(kdF ks).getD 0 0=kdE ks.head:=by
 obtain⟨v⟩:=ks;cases v with
 | none=>simp[Fs.len] at h
 | some z=>obtain⟨k,n,nm,a,ks,r⟩:=z;simp[kdF,Fs.head,kdE]
theorem head_ok {nc:Nat}{ks:Fs}(h:ks.len=1)(ho:okF nc ks):okE nc ks.head:=by
 obtain⟨v⟩:=ks;cases v with
 | none=>simp[Fs.len] at h
 | some z=>obtain⟨k,n,nm,a,ks,r⟩:=z;exact⟨ho.1,ho.2.1⟩
theorem doc26 {n:Int}{nm:List UInt8}{len:Nat}(h:docF 26 n nm len=true):len=1:=by
 unfold docF at h;simp at h;exact h.2
theorem rg_go (cells:List Int)(nc:Nat):∀ (f:Fs) (pk:Int) (i ar wi:Nat) (s s':Rg) (kd:List Int),okF nc f->rgF cells f pk i ar wi s=some (s',kd) ->
  Kgo s s'/\∀ K:Nat->Int,(∀ i x,s'.2 i=some x->kdE x=K i)->(∀ j v,kd[j]?=some v->(v=4 ↔ (pk=21/\i+j=0)))->skF K f pk i
 | ⟨none⟩,pk,i,ar,wi,s,s',kd,ho,h=>by
  simp only[rgF] at h;injection h with h
  injection h with h1 h2
  subst h1;exact⟨Kgo.refl _,fun _ _ _=>trivial⟩
 | ⟨some ⟨k,n,nm,a,ks,r⟩⟩,pk,i,ar,wi,s,s',kd,ho,h=>by
  obtain⟨s2,k2,rest,hx,hr,rfl⟩:=rg_kids _ pk i ar wi s s' kd h ⟨k,n,nm,a,ks⟩ r rfl;obtain⟨hg,s1,kd1,hk,hl,h0,h1,h2,h3⟩:=rgE_inv hx;simp only at hk hl h0 h1 h2 h3;obtain⟨g1,f1⟩:=rg_go cells nc ks k 0 _ _ _ _ _ ho.2.1 hk;obtain⟨g3,f3⟩:=rg_go cells nc r pk (i+1) ar wi _ _ _ ho.2.2 hr;have g1':Kgo s s1:=⟨fun i x q=>g1.up i x q,fun q=>g1.pos q⟩
  have g2:Kgo s1 s2/\(k=26->∃x,s2.2 n.toNat=some x/\kdE x=(kdF ks).getD 0 0):=by
   by_cases e:k=26
   ·rw[if_pos e] at h3;subst e;have hl1:=doc26 ho.1.1;have hp:=(kdE_bd (head_ok hl1 ho.2.1)).1;obtain⟨a1,x,a2,a3⟩:=keepP_go h3 hp;exact⟨a1,fun _=>⟨x,a2,by rw[a3,head_kd hl1]⟩⟩
   ·rw[if_neg e] at h3;injection h3 with h3
    subst h3;exact⟨Kgo.refl _,fun h=>absurd h e⟩
  refine⟨(g1'.trans g2.1).trans g3,fun K hK hv=>⟨?_,fun e=>?_,?_,?_⟩⟩
  ·have:=hv 0 k2 rfl
   rw[h2,formP_four] at this;simpa using this
  ·obtain⟨x,a1,a2⟩:=g2.2 e;rw[<-a2];exact hK _ _ (g3.up _ _ a1)
  ·exact f1 K (fun i x q=>hK i x (g3.up i x (g2.1.up i x q))) (fun j v q=>by have:=formP_kids h1 h0 j v q;simpa using this)
  ·exact f3 K hK (fun j v q=>by have:=hv (j+1) v q;rw[this];omega)
theorem sk_of {nc:Nat}{cells:List Int}{e:Ex}(h:kindP cells e≠0)(ho:okE nc e):∃K:Nat->Int,(∀ i,1<=K i)/\skE K e:=by
 obtain⟨-,-,s,hx,h4⟩:=kindP_inv h;obtain⟨hg,s1,kd,hk,hl,h0,h1,h2,h3⟩:=rgE_inv hx;obtain⟨g1,f1⟩:=rg_go cells nc e.kids e.k 0 _ _ _ _ _ ho.2 hk;have g1':Kgo (0,fun _=>none) s1:=⟨fun i x q=>g1.up i x q,fun q=>g1.pos q⟩
 have g2:Kgo s1 s/\(e.k=26->∃x,s.2 e.n.toNat=some x/\kdE x=(kdF e.kids).getD 0 0):=by
  by_cases ek:e.k=26
  ·rw[if_pos ek] at h3;have hl1:e.kids.len=1:=by
    have:=ho.1.1
    rw[ek] at this;exact doc26 this
   have hp:=(kdE_bd (head_ok hl1 ho.2)).1;obtain⟨a1,x,a2,a3⟩:=keepP_go h3 hp;exact⟨a1,fun _=>⟨x,a2,by rw[a3,head_kd hl1]⟩⟩
  ·rw[if_neg ek] at h3;injection h3 with h3
   subst h3;exact⟨Kgo.refl _,fun h=>absurd h ek⟩
 have hpos:=(g1'.trans g2.1).pos (fun i x q=>by cases q)
 let K:Nat->Int:=fun i=>match s.2 i with|none=>1|some x=>kdE x
 have hK:∀ i x,s.2 i=some x->kdE x=K i:=fun i x q=>by simp only[K];rw[q]
 refine⟨K,fun i=>?_,?_,fun ek=>?_,?_⟩
 ·simp only[K];cases hs:s.2 i with
  | none=>simp
  | some x=>exact hpos i x hs
 ·rw[<-formP_four (n:=e.n) (kd:=kd),<-h2];exact h4
 ·obtain⟨x,a1,a2⟩:=g2.2 ek;rw[<-a2];exact hK _ _ a1
 ·exact f1 K (fun i x q=>hK i x (g2.1.up i x q)) (fun j v q=>by have:=formP_kids h1 h0 j v q;simpa using this)
theorem SegQ.end1 {sc:ScQ}{ex:Nat × StQ->Prop}{W:List Wo}{p q:Nat}{A B:StQ}(h:SegQ sc (fun y=>ex y\/y=(q,B)) W p q A B):SegQ sc ex W p q A B:=by
 obtain⟨h1,σ,h2,h3,h4,h9⟩:=h;refine⟨h1,σ,h2,h3,fun i a b=>?_,h9⟩;obtain⟨x,h5,l,h6,h7⟩:=h4 i a b;refine⟨x,h5,l,h6,fun y hy=>?_⟩;rcases h7 y hy with h8|h8|h8
 ·exact .inl h8
 ·exact .inr h8
 ·subst h8;exact .inl ⟨h1,Nat.le_refl _,h3.symm⟩
def NdQ (sc:ScQ)(t:Tr)(k:Int)(ar:Nat):Prop:=(k≠4->∀ ex (l:List Nat),SgQ sc ex (t ar l.length) (l,ar) (l++[k.toNat],ar))/\(k=4->∀ ex (l:List Nat),SgQ sc ex (t ar l.length) (l,ar) (l,ar+1))
def TkL (sc:ScQ)(pk:Int)(ar:Nat):List Tr->List Int->Nat->Prop
 | [],[],_=>True
 | t::T,k::kd,i=>NdQ sc t k (if pk=21/\i≠0 then ar+1 else ar)/\TkL sc pk ar T kd (i+1)
 | _,_,_=>False
theorem TkL.len {sc:ScQ}{pk:Int}{ar:Nat}:∀ {T:List Tr}{kd:List Int}{i:Nat},TkL sc pk ar T kd i->T.length=kd.length
 | [],[],_,_=>rfl
 | t::T,k::kd,i,h=>by simp only[List.length_cons,h.2.len]
 | [],k::kd,_,h=>by simp[TkL] at h
 | t::T,[],_,h=>by simp[TkL] at h
theorem SgQ.cell {nq:Nat}{kc:Nat->Nat}{sc:ScQ}(H:ScsQ nq kc sc){ex:Nat × StQ->Prop}{f:Em->Em}(n:Nat)(kd:Int)(l:List Nat)(r:Nat)(hf:Gd f)(kf:∀ ex,SgQ sc ex f (l,r) (l++[kc n],r)):SgQ sc ex (fun s=>((f ((s.cel n kd).lay 17 n 0)).lay 18 n 0).land s.ws.length) (l,r) (l++[kc n],r):=fun s hs hd hA=>by
 have ic:Inv (s.cel n kd):=⟨hs.nc,hs.nn,hs.wc,hs.wn,hs.uc,hs.un⟩
 obtain⟨i1,p1⟩:=gd_lay 17 n 0 (by decide) (by decide) (by decide) _ ic;obtain⟨i2,p2⟩:=hf _ i1
 dsimp only at i1 p1 i2 p2
 have l1:((s.cel n kd).lay 17 n 0).ws.length=s.ws.length+1:=by simp[Em.lay,Em.cel]
 have l2:=p2.len;have w1:(f ((s.cel n kd).lay 17 n 0)).ws[s.ws.length]?=some ⟨17,n,0⟩:=(p2.at1 s.ws.length (by omega)).trans (lay_last (s.cel n kd) 17 n 0);have df:(f ((s.cel n kd).lay 17 n 0)).dp<=1024:=hd;obtain⟨b1,c1⟩:=kf (fun y=>ex y\/y=((f ((s.cel n kd).lay 17 n 0)).ws.length+1,(l++[kc n],r))) _ i1 df hA;refine⟨b1,fun W hW=>?_⟩;have hl:l.length+1<=1024:=by simpa using b1
 dsimp only at hW ⊢
 generalize f ((s.cel n kd).lay 17 n 0)=F at *;have e2:(F.lay 18 n 0).ws.length=F.ws.length+1:=by simp[Em.lay]
 have e3:((F.lay 18 n 0).land s.ws.length).ws.length=F.ws.length+1:=by rw[land_len,e2]
 rw[e3] at hW ⊢;have m1:∀ i,i<F.ws.length->((F.lay 18 n 0).land s.ws.length).ws[i]?=if s.ws.length=i then (F.ws[i]?).map (fun x=>x.to (F.ws.length+1)) else F.ws[i]?:=fun i hi=>by
  rw[land_at];have e:(F.lay 18 n 0).ws[i]?=F.ws[i]?:=by simp only[Em.lay];exact List.getElem?_append_left hi
  rw[e,e2]
 have m2:((F.lay 18 n 0).land s.ws.length).ws[F.ws.length]?=some ⟨18,n,0⟩:=by
  rw[land_at,if_neg (by omega)];exact lay_last F 18 n 0
 have s1:=c1 W (fun i a b=>by rw[l1] at a;rw[hW i (by omega) (by omega),m1 i b,if_neg (by omega)]);rw[l1] at s1;have s0:SegQ sc (fun y=>ex y\/y=(F.ws.length+1,(l++[kc n],r))) W s.ws.length (s.ws.length+1) (l,r) (l,r):=by
  refine SegQ.one (x:=⟨17,n,F.ws.length+1⟩) ?_ ⟨_,H.w17 _ _ _ _ _ hl,.head _,fun y hy=>?_⟩
  ·rw[hW _ (Nat.le_refl _) (by omega),m1 _ (by omega),if_pos rfl,w1];simp[Wo.to]
  ·simp only[List.mem_cons,List.not_mem_nil,or_false] at hy;rcases hy with rfl|rfl
   ·exact .inl rfl
   ·exact .inr (.inr rfl)
 have s2:SegQ sc (fun y=>ex y\/y=(F.ws.length+1,(l++[kc n],r))) W F.ws.length (F.ws.length+1) (l++[kc n],r) (l++[kc n],r) :=
  SegQ.one ((hW _ (by omega) (by omega)).trans m2) ⟨_,H.w18 _ _ _ _ _ hl,.head _,fun y hy=>by simp at hy;exact .inl hy⟩
 exact((s0.trans s1).trans s2).end1
theorem SgQ.clrs {nq:Nat}{kc:Nat->Nat}{sc:ScQ}(H:ScsQ nq kc sc){ex:Nat × StQ->Prop}(h:Nat)(A:StQ):∀ (lv:List Int) (i:Nat),SgQ sc ex (clrs h lv i) A A
 | [],_=>SgQ.id sc ex A
 | x::lv,i=>by
  have hr:=SgQ.clrs H (ex:=ex) h A lv (i+1);by_cases e:x=(h:Int)
  ·have h1:SgQ sc ex (fun s=>Go.Proofs.YtkhgahljbpmfaaaGreatDoor.clrs h lv (i+1) (s.lay 19 i 0)) A A:=(SgQ.lay 19 i 0 (fun hA=>⟨hA,fun k=>H.w19 _ _ _ _ _ hA⟩)).comp hr (gd_lay 19 i 0 (by decide) (by decide) (by decide)) (gd_clrs h lv (i+1)) (qgr_clrs h lv (i+1));have e1:Go.Proofs.YtkhgahljbpmfaaaGreatDoor.clrs h (x::lv) i=fun s=>Go.Proofs.YtkhgahljbpmfaaaGreatDoor.clrs h lv (i+1) (s.lay 19 i 0):=by funext s;show Go.Proofs.YtkhgahljbpmfaaaGreatDoor.clrs h lv (i+1) (if x=(h:Int) then s.lay 19 i 0 else s)=_;rw[if_pos e]
   rw[e1];exact h1
  ·have e1:Go.Proofs.YtkhgahljbpmfaaaGreatDoor.clrs h (x::lv) i=fun s=>Go.Proofs.YtkhgahljbpmfaaaGreatDoor.clrs h lv (i+1) s:=by funext s;show Go.Proofs.YtkhgahljbpmfaaaGreatDoor.clrs h lv (i+1) (if x=(h:Int) then s.lay 19 i 0 else s)=_;rw[if_neg e]
   rw[e1];exact hr
theorem SgQ.seq {sc:ScQ}{pk:Int}{ar:Nat}(hp:pk≠21):∀ (T:List Tr) (kd:List Int) (i j:Nat) (ex:Nat × StQ->Prop) (l0:Nat) (l:List Nat),TkL sc pk ar T kd i->(∀ k ∈ kd,k≠4)->(∀ t ∈ T,∀ ar u,Gd (t ar u))->(∀ t ∈ T,Qtr t)->l.length=l0+j ->
  SgQ sc ex (seqT T j ar l0) (l,ar) (l++kd.map Int.toNat,ar)
 | [],[],_,_,ex,l0,l,_,_,_,_,_=>by
  rw[List.map_nil,List.append_nil];exact SgQ.id sc ex (l,ar)
 | t::T,k::kd,i,j,ex,l0,l,h,hk,hg,hq,hl=>by
  have h1:=h.1.1 (hk k (List.mem_cons_self ..)) ex l;rw[if_neg (fun h=>hp h.1),hl] at h1;have h2:=SgQ.seq hp T kd (i+1) (j+1) ex l0 (l++[k.toNat]) h.2 (fun x hx=>hk x (List.mem_cons_of_mem _ hx)) (fun x hx=>hg x (List.mem_cons_of_mem _ hx)) (fun x hx=>hq x (List.mem_cons_of_mem _ hx)) (by simp;omega);have h3:=h1.comp h2 (hg t (List.mem_cons_self ..) _ _) (gd_seq T (j+1) ar l0 (fun x hx=>hg x (List.mem_cons_of_mem _ hx))) (qgr_seq T (j+1) ar l0 (fun x hx=>hq x (List.mem_cons_of_mem _ hx)));rw[List.append_assoc] at h3;exact h3
 | [],k::kd,_,_,_,_,_,h,_,_,_,_=>by simp[TkL] at h
 | t::T,[],_,_,_,_,_,h,_,_,_,_=>by simp[TkL] at h
theorem NdQ.bdy {nq:Nat}{kc:Nat->Nat}{sc:ScQ}(H:ScsQ nq kc sc)(lv:List Int){t:Tr}{k:Int}{ar:Nat}(h:NdQ sc t k (ar+1))(h4:k≠4)(hg:∀ ar u,Gd (t ar u))(hq:Qtr t)(ex:Nat × StQ->Prop)(l:List Nat):SgQ sc ex (bdy lv t ar l.length) (l,ar+1) (l++[k.toNat],ar+1) :=
 (SgQ.clrs H (ar+1) (l,ar+1) lv 0).comp (h.1 h4 ex l) (gd_clrs (ar+1) lv 0) (hg _ _) (hq _ _)
theorem SgQ.srch {nq:Nat}{kc:Nat->Nat}{sc:ScQ}(H:ScsQ nq kc sc)(lv:List Int){t:Tr}{ar:Nat}(h:NdQ sc t 2 (ar+1))(hg:∀ ar u,Gd (t ar u))(hq:Qtr t)(ex:Nat × StQ->Prop)(l:List Nat)(op:Nat)(v:Int)(ho:op=14\/op=15):SgQ sc ex (srch lv t op v ar l.length) (l,ar+1) (l++[2],ar):=fun s hs hd hA=>by
 have o1:op≠1:=by omega
 have o2:op≠2:=by omega
 have o3:op≠21:=by omega
 refine SgQ.fork (A1:=(l,ar+1)) (A2:=(l,ar)) (op:=24) (by decide) (by decide) (by decide) (by decide) ?_ (gd_con _ _ _) (fun x=>qle_con _ _ _ _) (fun h=>h) (fun h=>h) (fun hA a k=>?_) (fun a k S=>H.w13 _ _ _ _) ?_ (SgQ.con H _ 2 l ar) hs hd hA
 ·exact(((gd_bdy lv hg ar _).comp (gd_lay op _ 0 o1 o2 o3)).comp (gd_lay 25 0 0 (by decide) (by decide) (by decide))).comp (gd_con v 2 _)
 ·have:=H.w24 a 0 k l (ar+1) hA (by omega)
  simpa using this
 ·have b1:=NdQ.bdy H lv h (by decide) hg hq (fun y=>ex y\/y=(s.ws.length,(l,ar+1))) l;have b2:SgQ sc (fun y=>ex y\/y=(s.ws.length,(l,ar+1))) (fun x=>x.lay op s.ws.length 0) (l++[2],ar+1) (l,ar+1):=SgQ.word fun x=>⟨⟨op,s.ws.length,0⟩,rfl,fun _ hA=>⟨by simp at hA ⊢;omega,_,H.w14 op _ _ _ l _ ho (by simpa using hA),.head _,fun y hy=>by
   simp only[List.mem_cons,List.not_mem_nil,or_false] at hy;rcases hy with rfl|rfl
   ·exact .inl rfl
   ·exact .inr (.inr rfl)⟩⟩
  have b3:SgQ sc (fun y=>ex y\/y=(s.ws.length,(l,ar+1))) (fun x=>x.lay 25 0 0) (l,ar+1) (l,ar):=SgQ.lay 25 0 0 (fun hA=>⟨hA,fun k=>by simpa using H.w25 0 0 k l (ar+1) hA (by omega)⟩);exact((b1.comp b2 (gd_bdy lv hg ar _) (gd_lay op _ 0 o1 o2 o3) (fun x=>qle_lay _ _ _ _)).comp b3 ((gd_bdy lv hg ar _).comp (gd_lay op _ 0 o1 o2 o3)) (gd_lay 25 0 0 (by decide) (by decide) (by decide)) (fun x=>qle_lay _ _ _ _)).comp (SgQ.con H v 2 l ar) (((gd_bdy lv hg ar _).comp (gd_lay op _ 0 o1 o2 o3)).comp (gd_lay 25 0 0 (by decide) (by decide) (by decide))) (gd_con v 2 _) (fun x=>qle_con _ _ _ _)
theorem SgQ.gathF {nq:Nat}{kc:Nat->Nat}{sc:ScQ}(H:ScsQ nq kc sc)(lv:List Int){t:Tr}{k:Int}{ar:Nat}(h:NdQ sc t k (ar+1))(h4:k≠4)(hg:∀ ar u,Gd (t ar u))(hq:Qtr t)(ex:Nat × StQ->Prop)(l:List Nat)(f:Nat->Em->Em)(gf:∀ g,Gd (f g))(qf:∀ g,Qgr (f g))
  (hf:∀ g,SgQ sc (fun y=>ex y\/y=(g,(l,ar+1))) (f g) (l++[k.toNat],ar+1) (l,ar+1)):SgQ sc ex (Go.Proofs.YtkhgahljbpmfaaaGreatDoor.gath lv t f ar l.length) (l,ar+1) (l,ar):=fun s hs hd hA =>
 SgQ.gath (s:=s) (f:=fun x=>f s.ws.length (Go.Proofs.YtkhgahljbpmfaaaGreatDoor.bdy lv t ar l.length x)) (A1:=(l,ar+1)) (C:=(l,ar+1)) ((gd_bdy lv hg ar _).comp (gf _)) (fun h=>h) (fun h=>h) (fun hA a k=>by have:=H.w24 a 0 k l (ar+1) hA (by omega);simpa using this) (fun a k S=>H.w13 _ _ _ _) rfl
  ((NdQ.bdy H lv h h4 hg hq _ l).comp (hf _) (gd_bdy lv hg ar _) (gf _) (qf _)) hs hd hA
theorem NdQ.qua {nq:Nat}{kc:Nat->Nat}{sc:ScQ}(H:ScsQ nq kc sc)(lv:List Int)(n:Int)(hn:1<=n/\n<=6){a t:Tr}{ar:Nat}(ha:NdQ sc a 4 ar)(ht:NdQ sc t (if n<=3 then 2 else 1) (ar+1))(ga:∀ ar u,Gd (a ar u))(gt:∀ ar u,Gd (t ar u))(qa:Qtr a)(qt:Qtr t)(ex:Nat × StQ->Prop)(l:List Nat) :
  SgQ sc ex (qua lv n a t ar l.length) (l,ar) (l++[if n<=2 then 2 else 1],ar):=by
 have a1:=ha.2 rfl ex l;have c1:=SgQ.con H (ex:=ex) 0 1 l (ar+1);have a2:=a1.comp c1 (ga _ _) (gd_con 0 1 _) (fun x=>qle_con _ _ _ _);have hl1:(l++[1]).length=l.length+1:=by simp
 by_cases n1:n=1
 ·subst n1;exact a1.comp (SgQ.srch H lv ht gt qt ex l 15 0 (.inr rfl)) (ga _ _) (gd_srch lv gt 15 0 (by decide) (by decide) (by decide) ar _) (qgr_srch lv qt 15 0 ar _)
 by_cases n2:n=2
 ·subst n2;exact a1.comp (SgQ.srch H lv ht gt qt ex l 14 1 (.inl rfl)) (ga _ _) (gd_srch lv gt 14 1 (by decide) (by decide) (by decide) ar _) (qgr_srch lv qt 14 1 ar _)
 by_cases n3:n=3
 ·subst n3;have gf:∀ g,Gd (fun x:Em=>((x.lay 14 g 0).con 1 1 (l.length+1)).lay 6 0 0):=fun g=>((gd_lay 14 g 0 (by decide) (by decide) (by decide)).comp (gd_con 1 1 _)).comp (gd_lay 6 0 0 (by decide) (by decide) (by decide));have qf:∀ g,Qgr (fun x:Em=>((x.lay 14 g 0).con 1 1 (l.length+1)).lay 6 0 0):=fun g x=>((qle_lay _ _ _ _).trans (qle_con _ _ _ _)).trans (qle_lay _ _ _ _);have g1:=SgQ.gathF H lv ht (by decide) gt qt ex (l++[1]) (fun g x=>((x.lay 14 g 0).con 1 1 (l.length+1)).lay 6 0 0) gf qf (fun g=>by
   have b2:SgQ sc (fun y=>ex y\/y=(g,(l++[1],ar+1))) (fun x=>x.lay 14 g 0) (l++[1]++[2],ar+1) (l++[1],ar+1):=SgQ.word fun x=>⟨⟨14,g,0⟩,rfl,fun _ hA=>⟨by simp at hA ⊢;omega,_,H.w14 14 _ _ _ (l++[1]) _ (.inl rfl) (by simpa using hA),.head _,fun y hy=>by
    simp only[List.mem_cons,List.not_mem_nil,or_false] at hy;rcases hy with rfl|rfl
    ·exact .inl rfl
    ·exact .inr (.inr rfl)⟩⟩
   have b3:=SgQ.con H (ex:=fun y=>ex y\/y=(g,(l++[1],ar+1))) 1 1 (l++[1]) (ar+1);rw[hl1,List.append_assoc] at b3;have b4:SgQ sc (fun y=>ex y\/y=(g,(l++[1],ar+1))) (fun x=>x.lay 6 0 0) (l++([1]++[1]),ar+1) (l++[1],ar+1):=SgQ.lay 6 0 0 (fun hA=>⟨by simp at hA ⊢;omega,fun k=>H.w6 6 0 0 k l _ (by omega) (by omega) (by simpa using hA)⟩);exact(b2.comp b3 (gd_lay 14 g 0 (by decide) (by decide) (by decide)) (gd_con 1 1 _) (fun x=>qle_con _ _ _ _)).comp b4 ((gd_lay 14 g 0 (by decide) (by decide) (by decide)).comp (gd_con 1 1 _)) (gd_lay 6 0 0 (by decide) (by decide) (by decide)) (fun x=>qle_lay _ _ _ _))
  rw[hl1] at g1;exact a2.comp g1 ((ga _ _).comp (gd_con 0 1 _)) (gd_gath lv gt gf ar _) (qgr_gath lv qt qf ar _)
 by_cases n4:n=4
 ·subst n4;have gf:∀ g:Nat,Gd (fun x:Em=>x.lay 6 0 0):=fun g=>gd_lay 6 0 0 (by decide) (by decide) (by decide);have qf:∀ g:Nat,Qgr (fun x:Em=>x.lay 6 0 0):=fun g x=>qle_lay _ _ _ _;have g1:=SgQ.gathF H lv ht (by decide) gt qt ex (l++[1]) (fun g x=>x.lay 6 0 0) gf qf (fun g=>by
   have e1:(l++[1]++[((if (4:Int)<=3 then 2 else 1:Int)).toNat],ar+1)=(l++[1,1],ar+1):=by simp
   rw[e1];exact SgQ.lay 6 0 0 (fun hA=>⟨by simp at hA ⊢;omega,fun k=>H.w6 6 0 0 k l _ (by omega) (by omega) (by simpa using hA)⟩))
  rw[hl1] at g1;exact a2.comp g1 ((ga _ _).comp (gd_con 0 1 _)) (gd_gath lv gt gf ar _) (qgr_gath lv qt qf ar _)
 ·have hn5:n=5\/n=6:=by omega
  have hl2:(l++[1]++[2]).length=l.length+2:=by simp
  have c2:=SgQ.con H (ex:=ex) 0 2 (l++[1]) (ar+1);rw[hl1] at c2;have a3:=a2.comp c2 ((ga _ _).comp (gd_con 0 1 _)) (gd_con 0 2 _) (fun x=>qle_con _ _ _ _);have gf:∀ g:Nat,Gd (fun x:Em=>x.lay 26 (n-5).toNat 0):=fun g=>gd_lay 26 _ 0 (by decide) (by decide) (by decide);have qf:∀ g:Nat,Qgr (fun x:Em=>x.lay 26 (n-5).toNat 0):=fun g x=>qle_lay _ _ _ _;have g1:=SgQ.gathF H lv ht (by split<;>decide) gt qt ex (l++[1]++[2]) (fun g x=>x.lay 26 (n-5).toNat 0) gf qf (fun g=>by
   have e1:(l++[1]++[2]++[((if n<=3 then 2 else 1:Int)).toNat],ar+1)=(l++[1,2,1],ar+1):=by rw[if_neg (by omega)];simp
   have e2:(l++[1]++[2],ar+1)=(l++[1,2],ar+1):=by simp
   rw[e1,e2];exact SgQ.lay 26 _ 0 (fun hA=>⟨by simp at hA ⊢;omega,fun k=>H.w26 _ 0 k l _ (by simpa using hA)⟩))
  rw[hl2] at g1;have g2:=a3.comp g1 (((ga _ _).comp (gd_con 0 1 _)).comp (gd_con 0 2 _)) (gd_gath lv gt gf ar _) (qgr_gath lv qt qf ar _);have g3:SgQ sc ex (fun x=>x.lay 27 0 0) (l++[1]++[2],ar) (l++[1],ar):=SgQ.lay 27 0 0 (fun hA=>⟨by simp at hA ⊢;omega,fun k=>H.w27 0 0 k (l++[1]) _ (by simpa using hA)⟩);have g4:=g2.comp g3 ((((ga _ _).comp (gd_con 0 1 _)).comp (gd_con 0 2 _)).comp (gd_gath lv gt gf ar _)) (gd_lay 27 0 0 (by decide) (by decide) (by decide)) (fun x=>qle_lay _ _ _ _);rcases hn5 with rfl|rfl<;>exact g4
end Go.Proofs.YtkhgahljbpmfaaaGreatDoor
