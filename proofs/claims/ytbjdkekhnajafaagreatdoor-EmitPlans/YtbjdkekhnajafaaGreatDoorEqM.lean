import Derived.Test.YtbjdkekhnajafaaGreatDoorEmN
set_option maxRecDepth 100000
set_option maxHeartbeats 8000000
namespace Go.Proofs.YtbjdkekhnajafaaGreatDoor
open Go.ChangeShapes Go.WideShapes Go.ChangeAt Go.RowKit
set_option linter.unusedVariables false
set_option linter.unusedSimpArgs false
structure iz (w:World):Prop where
 tab:Tab w
 bar:∀ k:Nat,k<25->w.cell? ⟨0,k,none⟩=some (.int .i64 ([0,0,0,0,0,0,4,5,6,7,8,9,10,0,0,0,0,0,0,0,0,0,20,0,22].getD k 0))
 lt:0<w.heap.size
theorem iz.below {w w':World}(h:iz w)(b:Below w.heap.size w w'):iz w':=⟨h.tab.below b,fun k hk=>(b.cell (p:=⟨0,k,none⟩) h.lt).trans (h.bar k hk),Nat.lt_of_lt_of_le h.lt b.size⟩
abbrev o00:Nat->Nat:=fun _=>0
theorem pM (cv:Value)(cells:List Int)(w:World)(hcl:cells.length<=256)(hc:InA w cv cells) :
  Calls Tryz.prog 45 #[cv] w fun e w'=>∃rb o',e=.returned (pt0 rb)/\EmW w' o' rb cv (em0 cells)/\Below w.heap.size w w'/\∀ k,k<w.heap.size->o' k=0:=by
 obtain⟨ao,cap,rfl,-⟩:=hc;obtain⟨w1,hw1⟩:∃w1,w1=w.alloc (.cells #[.int .i64 1] 3):=⟨_,rfl⟩
 obtain⟨g,hg⟩:∃g,g=w.heap.size:=⟨_,rfl⟩
 have B1:Below g w w1:=by rw[hw1,hg];exact b1 _ _
 have C1:w1.cell? ⟨g,0,none⟩=some (.int .i64 1):=bD (by rw[hw1,hg];exact heap_alloc_new _ _);have L1:g<w1.heap.size:=by rw[hw1,hg];simp
 have HR:=uF w1 g 0 1 cells.length (by omega) L1 C1;have HG:=Lib.hid hg;clear hg;go_enter Tryz.func45,Tryz.ntmps45;go_wp2_with fail;rw[<-hw1,<-HG.out];clear hw1;refine HR.mono ?_;rintro e w2 ⟨gk,rfl,hgk,K2,B2⟩;clear HR;obtain⟨r,hr⟩:∃r,r=w2.heap.size:=⟨_,rfl⟩
 obtain⟨w5,hw5⟩:∃w5,w5=((w2.alloc (.map #[] 0)).alloc (.map #[] 0)).alloc (.cells #[.slice none 0 0,.slice none 0 0,.slice none 0 0,.slice (some ⟨gk,0,none⟩) cells.length cells.length,.map (some r),.map (some (r+1)),.slice ao cells.length cap,.int .i64 0] 95):=⟨_,rfl⟩
 obtain⟨z1,z2,z3,z4,z5⟩:=al3 w2 (.map #[] 0) (.map #[] 0) (.cells #[.slice none 0 0,.slice none 0 0,.slice none 0 0,.slice (some ⟨gk,0,none⟩) cells.length cells.length,.map (some r),.map (some (r+1)),.slice ao cells.length cap,.int .i64 0] 95);rw[<-hw5,<-hr] at z1 z2 z3 z4 z5;have hgr:gk<r:=by rw[hr];exact lt_of_block K2
 have hgw:g<gk:=by omega
 have HF:Hid (∃rb o',Ending.returned (.pointer (some ⟨r+2,0,none⟩))=.returned (pt0 rb)/\EmW w5 o' rb (.slice ao cells.length cap) (em0 cells)/\Below w.heap.size w w5/\∀ k,k<w.heap.size->o' k=0):=by
  obtain⟨o',ho'⟩:∃o':Nat->Nat,o'=fun k=>if k=r+2 then 1 else if k=gk then 5 else if k=r then 6 else if k=r+1 then 7 else 0:=⟨_,rfl⟩
  have l1:o' (r+2)=1:=by rw[ho'];simp
  have l5:o' gk=5:=by rw[ho'];show (if gk=r+2 then 1 else if gk=gk then 5 else _)=5;rw[if_neg (by omega),if_pos rfl]
  have l6:o' r=6:=by rw[ho'];show (if r=r+2 then 1 else if r=gk then 5 else if r=r then 6 else _)=6;rw[if_neg (by omega),if_neg (by omega),if_pos rfl]
  have l7:o' (r+1)=7:=by rw[ho'];show (if r+1=r+2 then 1 else if r+1=gk then 5 else if r+1=r then 6 else if r+1=r+1 then 7 else 0)=7;rw[if_neg (by omega),if_neg (by omega),if_neg (by omega),if_pos rfl]
  have B25:Below r w2 w5:=z5;refine⟨r+2,o',rfl,⟨fun x hx=>by simp[em0] at hx,fun x hx=>by simp[em0] at hx,fun x hx=>by simp[em0] at hx,_,_,_,_,r,r+1,⟨z3,l1⟩,Row.nil _ _ _ _ _,Row.nil _ _ _ _ _,Row.nil _ _ _ _ _,?_,?_,?_⟩,?_,fun k hk=>?_⟩
  ·have hK:w5.heap[gk]?=_:=(B25.block gk hgr).trans K2;have e1:(em0 cells).ks.length=cells.length:=by simp[em0]
   have e2:eiV (em0 cells).ks=List.replicate cells.length (Value.int .i64 1):=by simp[eiV,em0]
   rw[e1,e2];refine⟨⟨by simp,.inr ⟨gk,cells.length,_,rfl,Nat.zero_le _,hK,Nat.le_refl _,by unfold maxLen;omega,by simp,by simp⟩⟩,fun k hk=>?_⟩;simp[Value.ownBlock] at hk;rw[<-hk];exact l5
  ·obtain⟨D,q1,q2,q3,q4⟩:=MpC.made w2 o00 6;rw[<-hr] at q1;exact⟨D,gU q1 (aa.ofBelow (I:=fun _=>False) (w:=w2.alloc (.map #[] 0)) (w':=w5) o00 (by rw[hw5];exact((Below.refl _ _).alloc (Nat.le_refl _) _).alloc (by simp) _)) id,q2,l6,q4⟩
  ·obtain⟨D,q1,q2,q3,q4⟩:=MpS.made (w2.alloc (.map #[] 0)) o00 7;have e:(w2.alloc (.map #[] 0)).heap.size=r+1:=by rw[hr];simp
   rw[e] at q1;exact⟨D,gU q1 (aa.ofBelow (I:=fun _=>False) (w':=w5) o00 (by rw[hw5];exact b1 _ _)) id,q2,l7,q4⟩
  ·rw[<-HG.out];exact(B1.trans (B2.mono (Nat.le_of_lt L1))).trans (B25.mono (by omega))
  ·rw[<-HG.out] at hk;rw[ho'];show (if k=r+2 then 1 else if k=gk then 5 else if k=r then 6 else if k=r+1 then 7 else 0)=0;rw[if_neg (by omega),if_neg (by omega),if_neg (by omega),if_neg (by omega)]
 have hmm:=@run_makeMap Tryz.prog;have HR:=Lib.hid hr;clear z1 z2 z3 z4 z5 K2 B2 B1 C1 hr;rw[HR.out] at hw5 HF;go_wp2;rw[<-hw5];clear hw5;go_ret;exact HF.out
abbrev eI:Array Value:=#[.slice none 0 0,.slice none 0 0,.slice none 0 0,.slice none 0 0]
structure EmC (w:World)(o:Nat->Nat)(s:Em)(vw vc vn vk:Value):Prop where
 ok:∀ x ∈ s.ws,x.ok
 ci:∀ n ∈ s.cs,-9223372036854775808<=n/\n<=9223372036854775807
 ni:∀ x ∈ s.ns,x.length<=maxLen
 ws:Row w o 2 54 1 vw s.ws.length (woV s.ws)
 cs:Row w o 3 3 1 vc s.cs.length (eiV s.cs)
 ns:Row w o 4 9 1 vn s.ns.length (esV s.ns)
 ks:Row w o 5 3 1 vk s.ks.length (eiV s.ks)
def nE (w:World)(e:Ex)(cells:List Int)(z:Ending)(w':World):Prop :=
 Below w.heap.size w w'/\((bO cells e=0/\z=.returned (.tuple #[.agg eI,.int .i64 140])) \/
  (bO cells e≠0/\(32768<(emA cells e).ws.length\/1024<(emA cells e).dp)/\z=.returned (.tuple #[.agg eI,.int .i64 190])) \/
  (bO cells e≠0/\(emA cells e).ws.length<=32768/\(emA cells e).dp<=1024/\(emA cells e).mes<=100000000/\∃vw vc vn vk o',z=.returned (.tuple #[.agg #[vw,vc,vn,vk],.int .i64 0])/\(∀ k,k<w.heap.size->o' k=0)/\EmC w' o' (emA cells e) vw vc vn vk))
theorem Dy {w w':World}{o':Nat->Nat}{cv:Value}{cells:List Int}(h:iz w)(hc:InA w cv cells)(B:Below w.heap.size w w')(ho:∀ k,k<w.heap.size->o' k=0):EmX w' o' cv cells:=by
 have h':=h.below B;obtain⟨ao,cap,hv,hx⟩:=hc;refine⟨h'.tab,ho _ h.tab.2.2.2.2.2.2,h'.bar,⟨ho _ h.lt,h'.lt⟩,ao,cap,hv,?_⟩;rcases hx with hx|⟨b,off,h1,h2,h3,h4⟩
 ·exact .inl hx
 ·exact .inr ⟨b,off,h1,ho b h3,Nat.lt_of_lt_of_le h3 B.size,fun j x hj=>(B.cell (p:=⟨b,off+j,none⟩) h3).trans (h4 j x hj)⟩
theorem dj {w:World}{b:Nat}{x0 x1 x2 x3 x4:Value}{t:TypeId}(h:w.heap[b]?=some (.cells #[x0,x1,x2,x3,x4] t)):w.cell? ⟨b,0,none⟩=some x0/\w.cell? ⟨b,1,none⟩=some x1/\w.cell? ⟨b,2,none⟩=some x2/\w.cell? ⟨b,3,none⟩=some x3/\w.cell? ⟨b,4,none⟩=some x4:=by
 refine⟨?_,?_,?_,?_,?_⟩<;>simp[World.cell?,h]
theorem lY {w:World}{b:Nat}{x0 x1 x2 x3:Value}{t:TypeId}(y0 y1 y2 y3:Value)(h:w.heap[b]?=some (.cells #[x0,x1,x2,x3] t)):((((w.setCell ⟨b,0,none⟩ y0).setCell ⟨b,1,none⟩ y1).setCell ⟨b,2,none⟩ y2).setCell ⟨b,3,none⟩ y3).heap[b]?=some (.cells #[y0,y1,y2,y3] t) :=
 heap_setCell_same _ b 3 _ _ _ (heap_setCell_same _ b 2 _ _ _ (heap_setCell_same _ b 1 _ _ _ (heap_setCell_same w b 0 _ _ _ h)))
theorem xr (e:Ex)(ao:Option Addr)(cap:Nat)(cv:Value)(cells:List Int)(w:World)(hf:cu e)(hn:-9223372036854775808<=e.n/\e.n<=9223372036854775807)(hr:e.kids.rng)(hW:Wd w)(hT:iz w)(hc:InA w cv cells)(hcl:cells.length<=1000000000)(S:SnA w e.kids ao) :
  Calls Tryz.prog 18 #[plV e ao cap cv] w (nE w e cells):=by
 obtain⟨g,hg⟩:∃g,g=w.heap.size:=⟨_,rfl⟩
 obtain⟨w1,hw1⟩:∃w1,w1=(w.alloc (.cells #[.int .i64 e.k,.int .i64 e.n,stv e.nm,.slice ao e.kids.len cap,cv] 37)).alloc (.cells eI 42):=⟨_,rfl⟩
 obtain⟨z1,z2,z3,z4⟩:=al2 w (.cells #[.int .i64 e.k,.int .i64 e.n,stv e.nm,.slice ao e.kids.len cap,cv] 37) (.cells eI 42);rw[<-hw1,<-hg] at z1 z2 z3 z4;have B1:Below w.heap.size w w1:=by rw[<-hg];exact z4
 have HC:=yx e ao cap cv cells w1 hf (hW.below B1) (hc.below B1) hcl (SnA.below S B1);have hcv:=hc;obtain⟨ac,cc,rfl,-⟩:=hcv;rw[bZ] at HC ⊢;have HG:=Lib.hid hg;clear hg;obtain⟨c0,c1,c2,c3,c4⟩:=dj z1;by_cases hk:bO cells e=0
 ·rw[decide_eq_false (by simp[hk])] at HC;have HK:=Lib.hid hk;clear hk;go_enter Tryz.func18,Tryz.ntmps18;go_upto_region 1 with fail;rw[<-hw1,<-HG.out];clear hw1;go_upto_region 2 with (first|(go_at_call 44;refine HC.mono ?_;rintro z w2 ⟨rfl,B2⟩))
  have GZ:=(B2.block (g+1) (by omega)).trans z2;obtain⟨⟨d0,d1,d2,d3⟩,df⟩:=as GZ;have df0:=df 0;have df1:=df 1;have df2:=df 2;have df3:=df 3;have BZ:Below g w w2:=z4.trans (B2.mono (by omega));have ZE:=lY (.slice none 0 0) (.slice none 0 0) (.slice none 0 0) (.slice none 0 0) GZ;have hle:g<=g+1:=by omega
  have BE:=(((BZ.setCell (p:=⟨g+1,0,none⟩) hle (.slice none 0 0)).setCell (p:=⟨g+1,1,none⟩) hle (.slice none 0 0)).setCell (p:=⟨g+1,2,none⟩) hle (.slice none 0 0)).setCell (p:=⟨g+1,3,none⟩) hle (.slice none 0 0);obtain⟨⟨m0,m1,m2,m3⟩,-⟩:=as ZE;have HBE:=Lib.hid BE;clear ZE BE GZ BZ HC z1 z2 z3 z4 B1 B2 c0 c1 c2 c3 c4;go_wp2;exact bodyPost_ret (v:=.tuple #[.agg eI,.int .i64 140]) (by simp[results,Tryz.results18,go_sem,m0,m1,m2,m3]) rfl ⟨by rw[<-HG.out];exact HBE.out,.inl ⟨HK.out,rfl⟩⟩
 ·rw[decide_eq_true hk] at HC;obtain⟨hok,hsz,hnc,hcb⟩:=pL hk hn hr;have HK:=Lib.hid hk;clear hk;go_enter Tryz.func18,Tryz.ntmps18;go_upto_region 1 with fail;rw[<-hw1,<-HG.out];clear hw1;go_upto_region 3 with (first|(go_at_call 44;refine HC.mono ?_;rintro z w2 ⟨rfl,B2⟩))
  have B12:Below w.heap.size w w2:=B1.trans (B2.mono B1.size);have y1:=(B2.block g (by omega)).trans z1;have y2:=(B2.block (g+1) (by omega)).trans z2;have L2:g+2<=w2.heap.size:=by rw[<-z3];exact B2.size
  have HN:=pM _ cells w2 hnc (hc.below B12);clear c0 c1 c2 c3 c4 HC;obtain⟨c0,c1,c2,c3,c4⟩:=dj y1;go_upto_region 4 with (first|(go_at_call 45;refine HN.mono ?_;rintro z w3 ⟨rb,o3,rfl,E3,B3,ho3⟩))
  have X3:=Dy (hT.below B12) (hc.below B12) B3 ho3;have SN3:SnO w3 o3 e.kids ao:=(SnA.below S B12).mono (fun k _ hl=>B3.block k hl) B3.size (fun k _ hl=>ho3 k hl);have b3p:Blk w3 o3 0 g (.cells #[.int .i64 e.k,.int .i64 e.n,stv e.nm,.slice ao e.kids.len cap,.slice ac cells.length cc] 37):=⟨(B3.block g (by omega)).trans y1,ho3 g (by omega)⟩
  have b3r:Blk w3 o3 0 (g+1) (.cells eI 42):=⟨(B3.block (g+1) (by omega)).trans y2,ho3 (g+1) (by omega)⟩
  have hm0:(em0 cells).mes=0:=rfl;have hk0:(em0 cells).ks.length=cells.length:=by simp[em0]
  have HP:=pv cells.length (e.kids.size+1) e ao cap 0 0 w3 o3 rb _ cells (em0 cells) (by omega) hok rfl hnc SN3 hk0 (by rw[hm0];omega) (by omega) (by omega) (by show 0<=_;omega) X3 E3;rw[ah] at HP;have BW:Below g w w3:=(by rw[<-HG.out] at B12;exact B12.trans (B3.mono (by omega)))
  clear c0 c1 c2 c3 c4 HN;obtain⟨c0,c1,c2,c3,c4⟩:=dj b3p.1;go_upto_region 5 with (first|(go_at_call 46;refine HP.mono ?_;rintro z w4 ⟨rfl,⟨o4,E4,S4⟩,g4⟩))
  have X4:=X3.step S4 aA;have HL:=bU 0 0 0 w4 o4 rb _ cells (emE cells e 0 0 (em0 cells)) (by omega) (by omega) (by omega) (by have:=g4.mes;rw[hm0] at this;omega) X4 E4;go_upto_region 6 with (first|(go_at_call 47;refine HL.mono ?_;rintro z w5 ⟨rfl,o5,E5,S5⟩))
  have heq:(emE cells e 0 0 (em0 cells)).lay 0 0 0=emA cells e:=rfl;rw[heq] at E5;have hmes:(emA cells e).mes<=100000000:=by
   rw[<-heq,Em.mes_lay]
   have:=g4.mes
   rw[hm0] at this;omega
  have HMES:=Lib.hid hmes;have S35:=S4.trans S5;have b5r:=b3r.step S35 aA;have ho5:∀ k,k<w.heap.size->o5 k=0:=fun k hk2=>by
   have hg:=HG.out;have hb:=BW.size;rw[S35.lab k (by have:=B3.size;omega)];exact ho3 k (by omega)
  have B5:Below g w w5:=BW.trans ⟨S35.os,S35.tape,S35.output,S35.size,fun k hk2=>S35.block k (by have:=B3.size;omega) (by rw[ho3 k (by omega)];exact aA)⟩;obtain⟨h1,h2,h3,vw,vc,vn,vk,mc,mn,q0,q1,q2,q3,q4,q5,q6⟩:=E5;obtain⟨⟨t0,t1,t2,t3,t4,t5,t6,t7⟩,-⟩:=dZ q0.1;obtain⟨⟨d0,d1,d2,d3⟩,df⟩:=as b5r.1;have df0:=df 0;have df1:=df 1;have df2:=df 2;have df3:=df 3;have hle:g<=g+1:=by omega
  obtain⟨aw,cw,rfl⟩:=q1.form;obtain⟨ac2,cc2,rfl⟩:=q2.form;obtain⟨an,cn,rfl⟩:=q3.form;obtain⟨ak,ck,rfl⟩:=q4.form;by_cases hA:32768<(emA cells e).ws.length
  ·have hAI:(32768:Int)<((emA cells e).ws.length:Int):=by omega
   have ZE:=lY (.slice none 0 0) (.slice none 0 0) (.slice none 0 0) (.slice none 0 0) b5r.1;have BE:=(((B5.setCell (p:=⟨g+1,0,none⟩) hle (.slice none 0 0)).setCell (p:=⟨g+1,1,none⟩) hle (.slice none 0 0)).setCell (p:=⟨g+1,2,none⟩) hle (.slice none 0 0)).setCell (p:=⟨g+1,3,none⟩) hle (.slice none 0 0);obtain⟨⟨m0,m1,m2,m3⟩,-⟩:=as ZE;have HBE:=Lib.hid BE;have HA:=Lib.hid hA;clear ZE BE B5 b3r b3p b5r q1 q2 q3 q4 q5 q6 X3 X4 S35 SN3 E3 E4 BW HP HL B3 B12 y1 y2 B1 B2 z1 z2 z4 hT hW S hc;go_wp2;exact bodyPost_ret (v:=.tuple #[.agg eI,.int .i64 190]) (by simp[results,Tryz.results18,go_sem,m0,m1,m2,m3]) rfl ⟨by rw[<-HG.out];exact HBE.out,.inr (.inl ⟨HK.out,.inl HA.out,rfl⟩)⟩
  ·have hAI:¬(32768:Int)<((emA cells e).ws.length:Int):=by omega
   by_cases hB:1024<(emA cells e).dp
   ·have hBI:(1024:Int)<((emA cells e).dp:Int):=by omega
    have ZE:=lY (.slice none 0 0) (.slice none 0 0) (.slice none 0 0) (.slice none 0 0) b5r.1;have BE:=(((B5.setCell (p:=⟨g+1,0,none⟩) hle (.slice none 0 0)).setCell (p:=⟨g+1,1,none⟩) hle (.slice none 0 0)).setCell (p:=⟨g+1,2,none⟩) hle (.slice none 0 0)).setCell (p:=⟨g+1,3,none⟩) hle (.slice none 0 0);obtain⟨⟨m0,m1,m2,m3⟩,-⟩:=as ZE;have HBE:=Lib.hid BE;have HA:=Lib.hid hB;clear ZE BE B5 b3r b3p b5r q1 q2 q3 q4 q5 q6 X3 X4 S35 SN3 E3 E4 BW HP HL B3 B12 y1 y2 B1 B2 z1 z2 z4 hT hW S hc;go_wp2;exact bodyPost_ret (v:=.tuple #[.agg eI,.int .i64 190]) (by simp[results,Tryz.results18,go_sem,m0,m1,m2,m3]) rfl ⟨by rw[<-HG.out];exact HBE.out,.inr (.inl ⟨HK.out,.inr HA.out,rfl⟩)⟩
   ·have hBI:¬(1024:Int)<((emA cells e).dp:Int):=by omega
    have ZE:=lY (.slice aw (emA cells e).ws.length cw) (.slice ac2 (emA cells e).cs.length cc2) (.slice an (emA cells e).ns.length cn) (.slice ak (emA cells e).ks.length ck) b5r.1;have BE:=(((B5.setCell (p:=⟨g+1,0,none⟩) hle (.slice aw (emA cells e).ws.length cw)).setCell (p:=⟨g+1,1,none⟩) hle (.slice ac2 (emA cells e).cs.length cc2)).setCell (p:=⟨g+1,2,none⟩) hle (.slice an (emA cells e).ns.length cn)).setCell (p:=⟨g+1,3,none⟩) hle (.slice ak (emA cells e).ks.length ck);have SE:aa (fun k=>k=0) w5 o5 ((((w5.setCell ⟨g+1,0,none⟩ (.slice aw (emA cells e).ws.length cw)).setCell ⟨g+1,1,none⟩ (.slice ac2 (emA cells e).cs.length cc2)).setCell ⟨g+1,2,none⟩ (.slice an (emA cells e).ns.length cn)).setCell ⟨g+1,3,none⟩ (.slice ak (emA cells e).ks.length ck)) o5:=((((aa.refl _ w5 o5).setCell ⟨g+1,0,none⟩ _ b5r.2).setCell ⟨g+1,1,none⟩ _ b5r.2).setCell ⟨g+1,2,none⟩ _ b5r.2).setCell ⟨g+1,3,none⟩ _ b5r.2;obtain⟨⟨m0,m1,m2,m3⟩,-⟩:=as ZE;have HBE:=Lib.hid BE;have HA:=Lib.hid (show (emA cells e).ws.length<=32768/\(emA cells e).dp<=1024 by omega);have HCE:=Lib.hid (show EmC _ o5 (emA cells e) _ _ _ _ from ⟨h1,h2,h3,q1.step SE (by decide),q2.step SE (by decide),q3.step SE (by decide),q4.step SE (by decide)⟩);have HO5:=Lib.hid ho5;clear ZE BE SE B5 b3r b3p b5r q1 q2 q3 q4 q5 q6 X3 X4 S35 SN3 E3 E4 BW HP HL B3 B12 y1 y2 B1 B2 z1 z2 z4 hT hW S hc ho5 hA hB;go_wp2;exact bodyPost_ret (v:=.tuple #[.agg #[.slice aw (emA cells e).ws.length cw,.slice ac2 (emA cells e).cs.length cc2,.slice an (emA cells e).ns.length cn,.slice ak (emA cells e).ks.length ck],.int .i64 0]) (by simp[results,Tryz.results18,go_sem,m0,m1,m2,m3]) rfl ⟨by rw[<-HG.out];exact HBE.out,.inr (.inr ⟨HK.out,HA.out.1,HA.out.2,HMES.out,_,_,_,_,o5,rfl,HO5.out,HCE.out⟩)⟩
def awE:List UInt8:=[99,111,117,110,116,32,118,32,105,110,32,102,101,119,58,32,118,32,61,32,64,49]
def yi:Fs->Bool
 | ⟨none⟩=>true
 | ⟨some ⟨_,n,_,_,ks,r⟩⟩=>decide (-9223372036854775808<=n)&&(decide (n<=9223372036854775807)&&(yi ks&&yi r))
theorem oq:∀ {f:Fs},yi f=true->f.rng
 | ⟨none⟩,_=>trivial
 | ⟨some ⟨k,n,nm,a,ks,r⟩⟩,h=>by
  simp only[yi,Bool.and_eq_true,decide_eq_true_eq] at h;exact⟨h.1,h.2.1,oq h.2.2.1,oq h.2.2.2⟩
def CT (l:List UInt8):Bool:=match dV l with
 | ⟨some (.inr (x,_))⟩=>decide ((lL x).2.1=0)&&(decide (bO [] (ofE x [])≠0)&&(yi (one (ofE x []))&&(decide ((emA [] (ofE x [])).ws.length=11)&&(decide ((emA [] (ofE x [])).dp<=1024)&&(decide ((emA [] (ofE x [])).cs=[0,1])&&decide ((emA [] (ofE x [])).ns=[[102,101,119]]))))))
 | _=>false
theorem aw_e:CT awE=true:=by kernel_rfl
theorem uO {l:List UInt8}(h:CT l=true):∃x t,dV l=.ok x t/\(lL x).2.1=0/\bO [] (ofE x [])≠0/\(one (ofE x [])).rng/\(emA [] (ofE x [])).ws.length=11/\(emA [] (ofE x [])).dp<=1024/\(emA [] (ofE x [])).cs=[0,1]/\(emA [] (ofE x [])).ns=[[102,101,119]]:=by
 unfold CT at h;cases hp:dV l using Rs.on with
 | out=>rw[hp] at h;cases h
 | bad e a=>rw[hp] at h;cases h
 | ok x t =>
  rw[hp] at h;simp only[Rs.ok,Bool.and_eq_true,decide_eq_true_eq] at h;exact⟨x,t,rfl,h.1,h.2.1,oq h.2.2.1,h.2.2.2.1,h.2.2.2.2.1,h.2.2.2.2.2.1,h.2.2.2.2.2.2⟩
theorem gM.okE {w w':World}{e:Ex}{x:Ending}(h:gM w e x w')(ht:(lL e).2.1=0):∃ay cy,x=.returned (.tuple #[plV (ofE e []) ay cy (.slice none 0 0),.int .i64 0])/\SlN w' (Nw w.heap.size) (ofE e []).kids ay/\Below w.heap.size w w':=by
 unfold gM at h;rw[if_pos ht] at h;exact h
theorem nE.yes {w w':World}{e:Ex}{cells:List Int}{z:Ending}(h:nE w e cells z w')(hk:bO cells e≠0)(h1:(emA cells e).ws.length<=32768)(h2:(emA cells e).dp<=1024):Below w.heap.size w w'/\∃vw vc vn vk o',z=.returned (.tuple #[.agg #[vw,vc,vn,vk],.int .i64 0])/\(∀ k,k<w.heap.size->o' k=0)/\EmC w' o' (emA cells e) vw vc vn vk:=by
 obtain⟨B,h|h|h⟩:=h
 ·exact absurd h.1 hk
 ·rcases h.2.1 with h3|h3<;>omega
 ·exact⟨B,h.2.2.2.2⟩
theorem xy (w:World)(hW:Wd w)(hT:iz w):Calls Tryz.prog 15 #[] w fun e w'=>e=.returned (.bool true)/\Below w.heap.size w w':=by
 obtain⟨x,t,hx,ht,hk,hrg,hw11,hdp,hcs,hns⟩:=uO aw_e;have hok:=uD hx;have c1:=Bv ⟨awE.toArray⟩ w (by decide);have e1:(ByteArray.mk awE.toArray).data.toList=awE:=by simp
 rw[e1,hx] at c1;have hfp:cu (ofE x []):=⟨CV x [] hok.fit.nm,Nat.le_trans (zZ x []) hok.fit.len,vr x [] hok.fit.sh⟩
 clear e1 hx;go_enter Tryz.func15,Tryz.ntmps15;go_wp2_with fail;refine c1.mono ?_;rintro e w1 ⟨aox,capx,rfl,S1,b1⟩;clear c1;have b2:Below w1.heap.size w1 (w1.alloc (.cells #[.int .i64 x.k,.int .i64 x.n,stv x.nm,.slice aox x.kids.len capx,.int .i64 x.a] 25)):=(Below.refl _ w1).alloc (Nat.le_refl _) _;have X2:(w1.alloc (.cells #[.int .i64 x.k,.int .i64 x.n,stv x.nm,.slice aox x.kids.len capx,.int .i64 x.a] 25)).heap[w1.heap.size]?=some (.cells #[.int .i64 x.k,.int .i64 x.n,stv x.nm,.slice aox x.kids.len capx,.int .i64 x.a] 25 (0,0)):=heap_alloc_new w1 _;have B2:=b1.trans (b2.mono b1.size);have S2:SlT (w1.alloc (.cells #[.int .i64 x.k,.int .i64 x.n,stv x.nm,.slice aox x.kids.len capx,.int .i64 x.a] 25)) x.kids aox:=SlT.below (Sl.all S1) b2;rw[am];go_upto_region 2 with fail;generalize w1.alloc (.cells #[.int .i64 x.k,.int .i64 x.n,stv x.nm,.slice aox x.kids.len capx,.int .i64 x.a] 25)=w2 at *;generalize w1.heap.size=bx at *;have c3:=DA x aox capx w2 hok.fit (by have:=hok.size;omega) S2;rw[am] at c3;obtain⟨p0,p1,p2,p3,p4,pf⟩:=ai X2;go_wp2_with fail;refine c3.mono ?_;intro e w3 h3;have h3:=h3.okE ht;clear c3;generalize ofE x []=p at *;obtain⟨ap,cp,rfl,S3,b3⟩:=h3;have B3:=B2.trans (b3.mono B2.size);clear p0 p1 p2 p3 p4 pf b1 b2 b3 B2 S2 X2 S1 hok ht;have b4:Below w3.heap.size w3 (w3.alloc (.cells #[.int .i64 p.k,.int .i64 p.n,stv p.nm,.slice ap p.kids.len cp,.slice none 0 0] 37)):=(Below.refl _ w3).alloc (Nat.le_refl _) _;have X4:(w3.alloc (.cells #[.int .i64 p.k,.int .i64 p.n,stv p.nm,.slice ap p.kids.len cp,.slice none 0 0] 37)).heap[w3.heap.size]?=some (.cells #[.int .i64 p.k,.int .i64 p.n,stv p.nm,.slice ap p.kids.len cp,.slice none 0 0] 37 (0,0)):=heap_alloc_new w3 _;have B4:=B3.trans (b4.mono B3.size);have S4:=SnA.below S3.all b4;rw[bZ];go_upto_region 3 with fail;generalize w3.alloc (.cells #[.int .i64 p.k,.int .i64 p.n,stv p.nm,.slice ap p.kids.len cp,.slice none 0 0] 37)=w4 at *;generalize w3.heap.size=bp at *;have c5:=xr p ap cp (.slice none 0 0) [] w4 hfp ⟨hrg.1,hrg.2.1⟩ hrg.2.2.1 (hW.below B4) (hT.below B4) ⟨none,0,rfl,.inl rfl⟩ (by simp) S4;rw[bZ] at c5;obtain⟨p0,p1,p2,p3,p4,pf⟩:=ai X4;go_wp2_with fail;refine c5.mono ?_;intro e w5 h5;obtain⟨B5',vw,vc,vn,vk,o5,rfl,-,C5⟩:=h5.yes hk (by omega) hdp;clear c5 h5;have B5:=B4.trans (B5'.mono B4.size);obtain⟨aw,cw,rfl⟩:=C5.ws.form;obtain⟨ak,ck,rfl⟩:=C5.ks.form;have Rc:=C5.cs;have Rn:=C5.ns;rw[hcs] at Rc;rw[hns] at Rn;rw[hw11];obtain⟨gc,cc,rfl,-,-,-,hlc,hcc,-⟩:=Rc.pos (by decide);obtain⟨gn,cn,rfl,-,-,-,hln,hcn,-⟩:=Rn.pos (by decide);have d1:w5.cell? ⟨gc,1,none⟩=some (.int .i64 1):=hcc 1 (by decide);have d2:w5.cell? ⟨gn,0,none⟩=some (.string ⟨#[102,101,119]⟩):=hcn 0 (by decide);generalize (emA [] p).ks.length=lk at *;obtain⟨w6,hw6⟩:∃w6,w6=w5.alloc (.cells #[.slice aw 11 cw,.slice (some ⟨gc,0,none⟩) 2 cc,.slice (some ⟨gn,0,none⟩) 1 cn,.slice ak lk ck] 42):=⟨_,rfl⟩
 have b6:Below w5.heap.size w5 w6:=by rw[hw6];exact b1 _ _
 have X6:w6.heap[w5.heap.size]?=some (.cells #[.slice aw 11 cw,.slice (some ⟨gc,0,none⟩) 2 cc,.slice (some ⟨gn,0,none⟩) 1 cn,.slice ak lk ck] 42):=by rw[hw6];exact heap_alloc_new w5 _
 have B6:=B5.trans (b6.mono B5.size);have d1':=(b6.cell (p:=⟨gc,1,none⟩) hlc).trans d1;have d2':=(b6.cell (p:=⟨gn,0,none⟩) hln).trans d2;obtain⟨⟨m0,m1,m2,m3⟩,-⟩:=as X6;clear d1 d2 b6 B5 hcc hcn Rc Rn C5 p0 p1 p2 p3 p4 pf X4 X6 B5' B4 S4 hcs hns hw11 hdp hk;go_upto_region 4 with fail;rw[<-hw6];clear hw6;generalize w5.heap.size=bq at *;go_wp2;go_ret;exact⟨rfl,B6⟩
structure Inv (s:Em):Prop where
 nc:s.cs.Nodup
 nn:s.ns.Nodup
 wc:∀ x ∈ s.ws,(x.op=1\/x.op=2)->x.a<s.cs.length
 wn:∀ x ∈ s.ws,x.op=21->x.a<s.ns.length
 uc:∀ i,i<s.cs.length->∃x ∈ s.ws,(x.op=1\/x.op=2)/\x.a=i
 un:∀ i,i<s.ns.length->∃x ∈ s.ws,x.op=21/\x.a=i
structure Pre (s s':Em):Prop where
 at1:∀ i,i<s.ws.length->s'.ws[i]?=s.ws[i]?
 len:s.ws.length<=s'.ws.length
 ks:s'.ks.length=s.ks.length
theorem Pre.refl (s:Em):Pre s s:=⟨fun _ _=>rfl,Nat.le_refl _,rfl⟩
theorem Pre.trans {a b c:Em}(h:Pre a b)(k:Pre b c):Pre a c:=⟨fun i hi=>(k.at1 i (Nat.lt_of_lt_of_le hi h.len)).trans (h.at1 i hi),Nat.le_trans h.len k.len,k.ks.trans h.ks⟩
def Gd (f:Em->Em):Prop:=∀ s,Inv s->Inv (f s)/\Pre s (f s)
theorem Gd.id:Gd (fun s=>s):=fun s h=>⟨h,Pre.refl s⟩
theorem Gd.comp {f g:Em->Em}(hf:Gd f)(hg:Gd g):Gd (fun s=>g (f s)):=fun s h=>⟨(hg _ (hf s h).1).1,(hf s h).2.trans (hg _ (hf s h).1).2⟩
theorem tm (s:Em)(op a b:Nat):Pre s (s.lay op a b):=⟨fun i hi=>by simp only[Em.lay];exact List.getElem?_append_left hi,by simp[Em.lay],rfl⟩
theorem md (s:Em)(op a b u:Nat):Pre s (s.push op a b u):=⟨fun i hi=>by simp only[Em.push];exact List.getElem?_append_left hi,by simp[Em.push],rfl⟩
theorem jj {s:Em}(h:Inv s)(x:Wo)(d:Nat)(h1:(x.op=1\/x.op=2)->x.a<s.cs.length)(h2:x.op=21->x.a<s.ns.length):Inv ⟨s.ws++[x],s.cs,s.ns,s.ks,d⟩:=by
 refine⟨h.nc,h.nn,fun y hy=>?_,fun y hy=>?_,fun i hi=>?_,fun i hi=>?_⟩
 ·rcases List.mem_append.1 hy with hy|hy
  ·exact h.wc y hy
  ·simp at hy;subst hy;exact h1
 ·rcases List.mem_append.1 hy with hy|hy
  ·exact h.wn y hy
  ·simp at hy;subst hy;exact h2
 ·obtain⟨y,hy,h3⟩:=h.uc i hi;exact⟨y,List.mem_append_left _ hy,h3⟩
 ·obtain⟨y,hy,h3⟩:=h.un i hi;exact⟨y,List.mem_append_left _ hy,h3⟩
theorem cq (op a b:Nat)(h1:op≠1)(h2:op≠2)(h3:op≠21):Gd (fun s=>s.lay op a b):=fun s h =>
 ⟨jj h ⟨op,a,b⟩ s.dp (fun h=>by rcases h with h|h<;>contradiction) (fun h=>absurd h h3),tm s op a b⟩
theorem mW {s:Em}(h:Inv s)(n:Int)(op b d:Nat)(hop:op=1\/op=2):Inv ⟨(s.kc n).ws++[⟨op,s.cs.idxOf n,b⟩],(s.kc n).cs,(s.kc n).ns,(s.kc n).ks,d⟩:=by
 by_cases hm:n ∈ s.cs
 ·have e:(s.kc n).cs=s.cs:=by simp[Em.kc,hm]
  simp only[e];exact jj h ⟨op,s.cs.idxOf n,b⟩ d (fun _=>List.idxOf_lt_length_of_mem hm) (fun h=>by rcases hop with e|e<;>(rw[e] at h;cases h))
 ·have e:(s.kc n).cs=s.cs++[n]:=by simp[Em.kc,hm]
  have ei:s.cs.idxOf n=s.cs.length:=List.idxOf_eq_length hm;simp only[e,ei];refine⟨?_,h.nn,fun y hy hyo=>?_,fun y hy hyo=>?_,fun i hi=>?_,fun i hi=>?_⟩
  ·rw[List.nodup_append];exact⟨h.nc,by simp,fun x hx y hy=>by simp at hy;subst hy;rintro rfl;exact hm hx⟩
  ·rw[List.length_append];rcases List.mem_append.1 hy with hy|hy
   ·have:=h.wc y hy hyo;omega
   ·simp at hy;subst hy;simp
  ·rcases List.mem_append.1 hy with hy|hy
   ·exact h.wn y hy hyo
   ·simp at hy;subst hy;rcases hop with e|e<;>(rw[e] at hyo;cases hyo)
  ·rw[List.length_append] at hi;by_cases hi2:i<s.cs.length
   ·obtain⟨y,hy,h3⟩:=h.uc i hi2;exact⟨y,List.mem_append_left _ hy,h3⟩
   ·exact⟨_,List.mem_append_right _ (List.mem_singleton.2 rfl),hop,by simp at hi;simp only;omega⟩
  ·obtain⟨y,hy,h3⟩:=h.un i hi;exact⟨y,List.mem_append_left _ hy,h3⟩
theorem yR {s:Em}(h:Inv s)(n:List UInt8)(d:Nat):Inv ⟨(s.kn n).ws++[⟨21,s.ns.idxOf n,0⟩],(s.kn n).cs,(s.kn n).ns,(s.kn n).ks,d⟩:=by
 by_cases hm:n ∈ s.ns
 ·have e:(s.kn n).ns=s.ns:=by simp[Em.kn,hm]
  simp only[e];exact jj h ⟨21,s.ns.idxOf n,0⟩ d (fun h=>by simp at h) (fun _=>List.idxOf_lt_length_of_mem hm)
 ·have e:(s.kn n).ns=s.ns++[n]:=by simp[Em.kn,hm]
  have ei:s.ns.idxOf n=s.ns.length:=List.idxOf_eq_length hm;simp only[e,ei];refine⟨h.nc,?_,fun y hy hyo=>?_,fun y hy hyo=>?_,fun i hi=>?_,fun i hi=>?_⟩
  ·rw[List.nodup_append];exact⟨h.nn,by simp,fun x hx y hy=>by simp at hy;subst hy;rintro rfl;exact hm hx⟩
  ·rcases List.mem_append.1 hy with hy|hy
   ·exact h.wc y hy hyo
   ·simp at hy;subst hy;simp at hyo
  ·rw[List.length_append];rcases List.mem_append.1 hy with hy|hy
   ·have:=h.wn y hy hyo;omega
   ·simp at hy;subst hy;simp
  ·obtain⟨y,hy,h3⟩:=h.uc i hi;exact⟨y,List.mem_append_left _ hy,h3⟩
  ·rw[List.length_append] at hi;by_cases hi2:i<s.ns.length
   ·obtain⟨y,hy,h3⟩:=h.un i hi2;exact⟨y,List.mem_append_left _ hy,h3⟩
   ·exact⟨_,List.mem_append_right _ (List.mem_singleton.2 rfl),rfl,by simp at hi;simp only;omega⟩
theorem eW (n:Int)(kd u:Nat):Gd (fun s=>s.con n kd u):=fun s h=>⟨mW h n 1 kd _ (.inl rfl),Pre.trans (b:=s.kc n) ⟨fun _ _=>rfl,Nat.le_refl _,rfl⟩ (md (s.kc n) 1 _ kd u)⟩
theorem Cs (n:Int)(u:Nat):Gd (fun s=>(s.kc n).push 2 (s.cs.idxOf n) 0 u):=fun s h=>⟨mW h n 2 0 _ (.inr rfl),Pre.trans (b:=s.kc n) ⟨fun _ _=>rfl,Nat.le_refl _,rfl⟩ (md (s.kc n) 2 _ 0 u)⟩
theorem Cj (n:List UInt8):Gd (fun s=>(s.kn n).lay 21 (s.ns.idxOf n) 0):=fun s h=>⟨yR h n _,Pre.trans (b:=s.kn n) ⟨fun _ _=>rfl,Nat.le_refl _,rfl⟩ (tm (s.kn n) 21 _ 0)⟩
theorem Dn (a u:Nat):Gd (fun s=>s.push 3 a 0 u):=fun s h=>⟨jj h ⟨3,a,0⟩ _ (fun h=>by simp at h) (fun h=>by simp at h),md s 3 a 0 u⟩
theorem kP (s:Em)(i j:Nat):(s.land i).ws[j]?=if i=j then (s.ws[j]?).map (fun x=>x.to s.ws.length) else s.ws[j]?:=by
 simp only[Em.land];rw[List.getElem?_modify];split<;>simp
theorem En (x:Wo)(n:Nat):(x.to n).op=x.op:=by unfold Wo.to;split<;>rfl
theorem jC {s:Em}(h:Inv s){i:Nat}{x:Wo}(hx:s.ws[i]?=some x)(h1:x.op≠1)(h2:x.op≠2)(h3:x.op≠21):Inv (s.land i):=by
 have hmem:∀ y ∈ (s.land i).ws,(y.op=1\/y.op=2\/y.op=21)->y ∈ s.ws:=fun y hy ho=>by
  obtain⟨j,hj⟩:=List.mem_iff_getElem?.1 hy;rw[kP] at hj;split at hj
  ·rename_i e
   subst e;rw[hx] at hj;simp at hj;subst hj;rw[En] at ho;rcases ho with ho|ho|ho<;>contradiction
  ·exact List.mem_iff_getElem?.2 ⟨j,hj⟩
 have hback:∀ y ∈ s.ws,(y.op=1\/y.op=2\/y.op=21)->y ∈ (s.land i).ws:=fun y hy ho=>by
  obtain⟨j,hj⟩:=List.mem_iff_getElem?.1 hy;refine List.mem_iff_getElem?.2 ⟨j,?_⟩;rw[kP];split
  ·rename_i e
   subst e;rw[hx] at hj;simp at hj;subst hj;rcases ho with ho|ho|ho<;>contradiction
  ·exact hj
 refine⟨h.nc,h.nn,fun y hy ho=>h.wc y (hmem y hy (by rcases ho with e|e;exact .inl e;exact .inr (.inl e))) ho,fun y hy ho=>h.wn y (hmem y hy (.inr (.inr ho))) ho,fun k hk=>?_,fun k hk=>?_⟩
 ·obtain⟨y,hy,ho,ha⟩:=h.uc k hk;exact⟨y,hback y hy (by rcases ho with e|e;exact .inl e;exact .inr (.inl e)),ho,ha⟩
 ·obtain⟨y,hy,ho,ha⟩:=h.un k hk;exact⟨y,hback y hy (.inr (.inr ho)),ho,ha⟩
theorem qH (s:Em)(i:Nat):(s.land i).ws.length=s.ws.length:=by simp[Em.land]
theorem i9 {s s':Em}(h:Pre s s'){i:Nat}(hi:s.ws.length<=i):Pre s (s'.land i):=⟨fun j hj=>by rw[kP,if_neg (by omega)];exact h.at1 j hj,by rw[qH];exact h.len,h.ks⟩
theorem js (s:Em)(op a b:Nat):(s.lay op a b).ws[s.ws.length]?=some ⟨op,a,b⟩:=by simp[Em.lay]
theorem kQ {f g:Em->Em}(op:Nat)(hf:Gd f)(hg:Gd g)(h1:op≠1)(h2:op≠2)(h3:op≠21):Gd (fun s=>s.fork op f g):=fun s h=>by
 obtain⟨i1,p1⟩:=cq op 0 0 h1 h2 h3 s h;obtain⟨i2,p2⟩:=hf _ i1;obtain⟨i3,p3⟩:=cq 13 0 0 (by decide) (by decide) (by decide) _ i2
 dsimp only at i1 p1 i2 p2 i3 p3
 have hl1:(s.lay op 0 0).ws.length=s.ws.length+1:=by simp[Em.lay]
 have hw1:((f (s.lay op 0 0)).lay 13 0 0).ws[s.ws.length]?=some ⟨op,0,0⟩:=((p2.trans p3).at1 s.ws.length (by omega)).trans (js s op 0 0);have i4:=jC i3 hw1 h1 h2 h3;have p4:=i9 ((p1.trans p2).trans p3) (Nat.le_refl s.ws.length);obtain⟨i5,p5⟩:=hg _ i4;have hl2:=p2.len;have hl3:(((f (s.lay op 0 0)).lay 13 0 0).land s.ws.length).ws.length=(f (s.lay op 0 0)).ws.length+1:=by rw[qH];simp[Em.lay]
 have hw2:(((f (s.lay op 0 0)).lay 13 0 0).land s.ws.length).ws[(f (s.lay op 0 0)).ws.length]?=some ⟨13,0,0⟩:=by
  rw[kP,if_neg (by omega)];exact js _ 13 0 0
 have hw3:=(p5.at1 (f (s.lay op 0 0)).ws.length (by omega)).trans hw2;exact⟨jC i5 hw3 (by decide) (by decide) (by decide),i9 (p4.trans p5) (by omega)⟩
theorem ou (h:Nat):∀ (l:List Int) (i:Nat),Gd (eB h l i)
 | [],_=>Gd.id
 | x::r,i=>fun s hs=>by
  unfold eB;by_cases e:x=(h:Int)
  ·rw[if_pos e];obtain⟨a,b⟩:=cq 19 i 0 (by decide) (by decide) (by decide) s hs;obtain⟨c,d⟩:=ou h r (i+1) _ a;exact⟨c,b.trans d⟩
  ·rw[if_neg e];exact ou h r (i+1) s hs
theorem xU (lv:List Int){t:Tr}(ht:∀ ar u,Gd (t ar u))(ar u:Nat):Gd (bdy lv t ar u):=(ou (ar+1) lv 0).comp (ht (ar+1) u)
theorem sK (lv:List Int){t:Tr}(ht:∀ ar u,Gd (t ar u))(op:Nat)(v:Int)(h1:op≠1)(h2:op≠2)(h3:op≠21)(ar u:Nat):Gd (vX lv t op v ar u):=fun s hs =>
 kQ 24 ((((xU lv ht ar u).comp (cq op s.ws.length 0 h1 h2 h3)).comp (cq 25 0 0 (by decide) (by decide) (by decide))).comp (eW v 2 u)) (eW (1-v) 2 u) (by decide) (by decide) (by decide) s hs
theorem nU (lv:List Int){t:Tr}(ht:∀ ar u,Gd (t ar u)){f:Nat->Em->Em}(hf:∀ g,Gd (f g))(ar u:Nat):Gd (mN lv t f ar u):=fun s h=>by
 obtain⟨i1,p1⟩:=cq 24 0 0 (by decide) (by decide) (by decide) s h;obtain⟨i2,p2⟩:=(((xU lv ht ar u).comp (hf s.ws.length)).comp (cq 13 s.ws.length 0 (by decide) (by decide) (by decide))) _ i1
 dsimp only at i1 p1 i2 p2
 have hl1:(s.lay 24 0 0).ws.length=s.ws.length+1:=by simp[Em.lay]
 have hw:=(p2.at1 s.ws.length (by omega)).trans (js s 24 0 0);exact⟨jC i2 hw (by decide) (by decide) (by decide),i9 (p1.trans p2) (Nat.le_refl _)⟩
theorem Ce (lv:List Int)(n:Int){a t:Tr}(ha:∀ ar u,Gd (a ar u))(ht:∀ ar u,Gd (t ar u))(ar u:Nat):Gd (qua lv n a t ar u):=fun s hs=>by
 unfold qua;split
 ·exact((ha ar u).comp (sK lv ht 15 0 (by decide) (by decide) (by decide) ar u)) s hs
 ·split
  ·exact((ha ar u).comp (sK lv ht 14 1 (by decide) (by decide) (by decide) ar u)) s hs
  ·split
   ·exact(((ha ar u).comp (eW 0 1 u)).comp (nU lv ht (fun g=>((cq 14 g 0 (by decide) (by decide) (by decide)).comp (eW 1 1 (u+1))).comp (cq 6 0 0 (by decide) (by decide) (by decide))) ar (u+1))) s hs
   ·split
    ·exact(((ha ar u).comp (eW 0 1 u)).comp (nU lv ht (fun g=>cq 6 0 0 (by decide) (by decide) (by decide)) ar (u+1))) s hs
    ·exact(((((ha ar u).comp (eW 0 1 u)).comp (eW 0 2 (u+1))).comp (nU lv ht (fun g=>cq 26 (n-5).toNat 0 (by decide) (by decide) (by decide)) ar (u+2))).comp (cq 27 0 0 (by decide) (by decide) (by decide))) s hs
theorem yB:∀ (T:List Tr) (i ar u:Nat),(∀ t ∈ T,∀ ar u,Gd (t ar u))->Gd (kH T i ar u)
 | [],_,_,_,_=>Gd.id
 | t::r,i,ar,u,h=>(h t (List.mem_cons_self ..) ar (u+i)).comp (yB r (i+1) ar u (fun x hx=>h x (List.mem_cons_of_mem _ hx)))
theorem rK (k:Int):fx k≠1/\fx k≠2/\fx k≠21:=by
 unfold fx
 repeat' split
 all_goals decide
theorem CL (k n:Int)(nm:List UInt8)(kk:List Int):Gd (opr k n nm kk):=fun s hs=>by
 unfold opr;split
 ·exact cq 11 0 _ (by decide) (by decide) (by decide) s hs
 ·split
  ·exact((cq 11 0 (kk.getD 0 0).toNat (by decide) (by decide) (by decide)).comp (cq 5 0 0 (by decide) (by decide) (by decide))) s hs
  ·split
   ·exact cq 12 0 0 (by decide) (by decide) (by decide) s hs
   ·split
    ·exact cq 12 0 1 (by decide) (by decide) (by decide) s hs
    ·split
     ·exact cq 16 _ 0 (by decide) (by decide) (by decide) s hs
     ·split
      ·exact Cj nm s hs
      ·split
       ·exact cq 23 _ 0 (by decide) (by decide) (by decide) s hs
       ·exact cq _ 0 0 (rK k).1 (rK k).2.1 (rK k).2.2 s hs
theorem fl {T:List Tr}(h:∀ t ∈ T,∀ ar u,Gd (t ar u))(i ar u:Nat):Gd (T.getD i noT ar u):=by
 by_cases hi:i<T.length
 ·rw[List.getD_eq_getElem?_getD,List.getElem?_eq_getElem hi];exact h _ (List.getElem_mem hi) ar u
 ·rw[List.getD_eq_getElem?_getD,List.getElem?_eq_none (by omega)];exact Gd.id
theorem yE (lv:List Int)(k n:Int)(nm:List UInt8)(kk:List Int){T:List Tr}(h:∀ t ∈ T,∀ ar u,Gd (t ar u))(ar u:Nat):Gd (prt lv k n nm kk T ar u):=fun s hs=>by
 unfold prt;split
 ·exact eW n 1 u s hs
 split
 ·exact eW n 2 u s hs
 split
 ·exact Cs n u s hs
 split
 ·exact Dn _ u s hs
 split
 ·exact((fl h 0 ar u).comp (kQ 14 (fl h 1 ar u) (eW 0 2 u) (by decide) (by decide) (by decide))) s hs
 split
 ·exact((fl h 0 ar u).comp (kQ 15 (fl h 1 ar u) (eW 1 2 u) (by decide) (by decide) (by decide))) s hs
 split
 ·exact((fl h 0 ar u).comp (kQ 14 (fl h 1 ar u) (fl h 2 ar u) (by decide) (by decide) (by decide))) s hs
 split
 ·have hs1:Inv (s.cel n.toNat (kk.getD 0 0)):=⟨hs.nc,hs.nn,hs.wc,hs.wn,hs.uc,hs.un⟩
  have p0:Pre s (s.cel n.toNat (kk.getD 0 0)):=⟨fun _ _=>rfl,Nat.le_refl _,by simp[Em.cel]⟩
  obtain⟨i1,p1⟩:=cq 17 n.toNat 0 (by decide) (by decide) (by decide) _ hs1;obtain⟨i2,p2⟩:=((fl h 0 ar u).comp (cq 18 n.toNat 0 (by decide) (by decide) (by decide))) _ i1
  dsimp only at i1 p1 i2 p2
  have hl1:((s.cel n.toNat (kk.getD 0 0)).lay 17 n.toNat 0).ws.length=s.ws.length+1:=by simp[Em.lay,Em.cel]
  have hw:=(p2.at1 s.ws.length (by omega)).trans (js (s.cel n.toNat (kk.getD 0 0)) 17 n.toNat 0);exact⟨jC i2 hw (show (17:Nat)≠1 by decide) (show (17:Nat)≠2 by decide) (show (17:Nat)≠21 by decide),i9 ((p0.trans p1).trans p2) (Nat.le_refl _)⟩
 split
 ·exact Ce lv n (fun ar u=>fl h 0 ar u) (fun ar u=>fl h 1 ar u) ar u s hs
 ·exact((yB T 0 ar u h).comp (CL k n nm kk)) s hs
theorem sG (lv:List Int):∀ (f:Fs),∀ t ∈ emF lv f,∀ ar u,Gd (t ar u)
 | ⟨none⟩=>fun t ht=>by simp[emF] at ht
 | ⟨some ⟨k,n,nm,a,ks,r⟩⟩=>fun t ht ar u=>by
  simp only[emF,List.mem_cons] at ht;rcases ht with rfl|ht
  ·exact yE lv k n nm (kdF ks) (sG lv ks) ar u
  ·exact sG lv r t ht ar u
theorem CD (lv:List Int)(e:Ex)(ar u:Nat):Gd (emE lv e ar u):=yE lv e.k e.n e.nm (kdF e.kids) (sG lv e.kids) ar u
theorem zK (lv:List Int)(e:Ex):Inv (emA lv e)/\(emA lv e).ks.length=lv.length:=by
 have h0:Inv (em0 lv):=⟨List.nodup_nil,List.nodup_nil,fun x hx=>by simp[em0] at hx,fun x hx=>by simp[em0] at hx,fun i hi=>by simp[em0] at hi,fun i hi=>by simp[em0] at hi⟩
 obtain⟨h,p⟩:=((CD lv e 0 0).comp (cq 0 0 0 (by decide) (by decide) (by decide))) _ h0;exact⟨h,p.ks.trans (by simp[em0])⟩
theorem vt (w:World)(v1 v2:Value)(xs ys:List Int)(h1:InA w v1 xs)(h2:InA w v2 ys)(hl:xs.length<=1000000000) :
  Calls Tryz.prog 48 #[v1,v2] w fun x w'=>x=.returned (.bool (decide (xs=ys)))/\Below w.heap.size w w':=by
 obtain⟨W,hW⟩:∃W,W=decide (xs=ys):=⟨_,rfl⟩
 rw[<-hW];have HW:Hid (W=decide (xs=ys)):=hW;clear hW;obtain⟨a1,c1,rfl,h1⟩:=h1;obtain⟨a2,c2,rfl,h2⟩:=h2;go_enter Tryz.func48,Tryz.ntmps48;by_cases hll:xs.length=ys.length
 ·have hI:((xs.length:Int) != (ys.length:Int))=false:=by rw[hll];simp
  have HL:Hid (xs.length=ys.length):=hll;clear hll;go_wp2;go_loopw [5] (fun v wr=>∃k:Nat,k<=xs.length/\v=.int .i64 (k:Nat)/\Hid (∀ j,j<k->xs[j]?=ys[j]?)/\Below w.heap.size w wr) (fun v _=>xs.length-(intOf v).toNat)
  case atStart=>exact⟨0,by omega,by go_num,fun j hj=>absurd hj (Nat.not_lt_zero _),Below.refl _ _⟩
  case round =>
   obtain⟨k,hk,rfl,hno,B1⟩:=hrel;by_cases hlt:k<xs.length
   ·have hy:k<ys.length:=by have:=HL.out;omega
    have hx1:xs[k]?=some xs[k]:=List.getElem?_eq_getElem hlt;have hy1:ys[k]?=some ys[k]:=List.getElem?_eq_getElem hy;rcases h1 with rfl|⟨g1,o1,rfl,-,hg1,hc1⟩
    ·simp at hlt
    rcases h2 with rfl|⟨g2,o2,rfl,-,hg2,hc2⟩
    ·simp at hy
    have x1:=(B1.cell (p:=⟨g1,o1+k,none⟩) hg1).trans (hc1 k _ hx1);have y1:=(B1.cell (p:=⟨g2,o2+k,none⟩) hg2).trans (hc2 k _ hy1);generalize xs[k]=x at x1 hx1;generalize ys[k]=y at y1 hy1;have hkI:(k:Int)<(xs.length:Int):=by omega
    have hkJ:(k:Int)<(ys.length:Int):=by omega
    have HX:Hid (xs[k]?=some x/\ys[k]?=some y):=⟨hx1,hy1⟩
    clear hx1 hy1 hc1 hc2 hI;by_cases he:x=y
    ·have hbe:(x != y)=false:=by simpa using he
     have hn2:Hid (∀ j,j<k+1->xs[j]?=ys[j]?):=by
      intro j hj;rcases Nat.lt_succ_iff_lt_or_eq.1 hj with h3|rfl
      ·exact hno.out j h3
      ·rw[HX.out.1,HX.out.2,he]
     clear hno HX he HW;go_wp2_with fail
     go_quiet (fail)
     have B2:=B1.trans (show Below w.heap.size wr (wr.drewN nq) from ⟨rfl,rfl,rfl,Nat.le_refl _,fun _ _=>rfl⟩);go_wp2;go_roundw
     case rel=>exact⟨k+1,by omega,by go_num,hn2,B2⟩
     case measure=>simp[intOf];omega
    ·have hbe:(x != y)=true:=by simpa using he
     have FIN:Hid (W=false):=by
      show W=_;rw[HW.out];apply decide_eq_false;intro h3;rw[h3,HX.out.2] at HX
      have:=HX.out.1
      injection this with this
      exact he this.symm
     clear hno HX he HW;go_wp2_with fail
     go_quiet (fail)
     have B2:=B1.trans (show Below w.heap.size wr (wr.drewN nq) from ⟨rfl,rfl,rfl,Nat.le_refl _,fun _ _=>rfl⟩);go_wp2;go_ret;rw[FIN.out];exact⟨rfl,B2⟩
   ·have hkI:¬(k:Int)<(xs.length:Int):=by omega
    have FIN:Hid (W=true):=by
     show W=_;rw[HW.out];apply decide_eq_true;apply List.ext_getElem?;intro j;rcases Nat.lt_or_ge j k with h3|h3
     ·exact hno.out j h3
     ·rw[List.getElem?_eq_none (by omega),List.getElem?_eq_none (by have:=HL.out;omega)]
    clear hno HW h1 h2 hI;go_wp2;go_ret;rw[FIN.out];exact⟨rfl,B1⟩
 ·have hI:((xs.length:Int) != (ys.length:Int))=true:=by simp;omega
  have FIN:Hid (W=false):=by
   show W=_;rw[HW.out];exact decide_eq_false (fun h3=>hll (by rw[h3]))
  clear HW hll h1 h2;go_wp2;go_ret;rw[FIN.out];exact⟨rfl,Below.refl _ _⟩
def hvP (e:Ex)(cells:List Int):Bool:=decide (20000<cells.length)||decide (wgF e.kids (20000-1)<0)
theorem uu (e:Ex)(ao:Option Addr)(cap ac0:Nat)(cv:Value)(cells:List Int)(w:World)(hc:InA w cv cells)(hcl:cells.length<=maxLen)(hlen:e.kids.len<=maxLen)(hwd:e.kids.wide)(S:SnA w e.kids ao) :
  Calls Tryz.prog 14 #[plV e ao cap cv] w fun x w'=>x=.returned (.bool (hvP e cells))/\Below w.heap.size w w':=by
 obtain⟨W,hW⟩:∃W,W=hvP e cells:=⟨_,rfl⟩
 rw[<-hW];have HW:Hid (W=hvP e cells):=hW;clear hW;obtain⟨ac,cc,hcv,hcx⟩:=hc;subst hcv;clear hcx;have hml:Hid (maxLen=9223372036854775807):=rfl;have hcm:cells.length<=9223372036854775807:=by have:=hml.out;omega
 have B0:Below w.heap.size w (w.alloc (.cells #[.int .i64 e.k,.int .i64 e.n,stv e.nm,.slice ao e.kids.len cap,.slice ac cells.length cc] 37)):=(Below.refl _ w).alloc (Nat.le_refl _) _;have E0:(w.alloc (.cells #[.int .i64 e.k,.int .i64 e.n,stv e.nm,.slice ao e.kids.len cap,.slice ac cells.length cc] 37)).heap[w.heap.size]?=some (.cells #[.int .i64 e.k,.int .i64 e.n,stv e.nm,.slice ao e.kids.len cap,.slice ac cells.length cc] 37):=heap_alloc_new w _;have S0:=SnA.below S B0;rw[bZ];go_enter Tryz.func14,Tryz.ntmps14;go_upto_region 1 with fail;generalize w.alloc (.cells #[.int .i64 e.k,.int .i64 e.n,stv e.nm,.slice ao e.kids.len cap,.slice ac cells.length cc] 37)=w0 at *;obtain⟨p0,p1,p2,p3,p4,pf⟩:=ai E0;by_cases h2:20000<cells.length
 ·have hI:(20000:Int)<(cells.length:Int):=by omega
  have HZ:Hid (W=true):=by show W=_;rw[HW.out];simp[hvP,h2]
  clear HW h2;go_wp2;go_ret;rw[HZ.out];exact⟨rfl,B0⟩
 ·have hI:¬(20000:Int)<(cells.length:Int):=by omega
  have HZ:Hid (W=decide (wgF e.kids (20000-1)<0)):=by show W=_;rw[HW.out];simp[hvP,h2]
  have c1:=mY (e.kids.size+1) e ao cap 20000 w0 (by omega) hlen hwd (by omega) (by omega) S0;rw[ah] at c1;generalize wgF e.kids (20000-1)=g at *;clear HW h2;go_wp2_with fail;refine c1.mono ?_;rintro z w1 ⟨rfl,b1⟩;have B1:Below w.heap.size w w1:=B0.trans (b1.mono B0.size);clear c1 p0 p1 p2 p3 p4 pf E0;go_wp2;go_ret;rw[HZ.out];exact⟨rfl,B1⟩
theorem Bc {e:Ex}{cells:List Int}(h:hvP e cells=false):cells.length<=20000/\e.kids.size<=20000:=by
 unfold hvP at h;simp only[Bool.or_eq_false_iff,decide_eq_false_iff_not] at h;have h1:=lQ e.kids (20000-1) (by omega);omega
def okQ (s:Em):Prop:=s.ws.length<=32768/\s.dp<=1024
structure Qle (s t:Em):Prop where
 ws:s.ws.length<=t.ws.length
 dp:s.dp<=t.dp
theorem Qle.ok {s t:Em}(h:Qle s t)(k:okQ t):okQ s:=⟨Nat.le_trans h.ws k.1,Nat.le_trans h.dp k.2⟩
theorem Qle.refl (s:Em):Qle s s:=⟨Nat.le_refl _,Nat.le_refl _⟩
theorem Qle.trans {a b c:Em}(h:Qle a b)(k:Qle b c):Qle a c:=⟨Nat.le_trans h.ws k.ws,Nat.le_trans h.dp k.dp⟩
theorem aN (s:Em)(op a b:Nat):Qle s (s.lay op a b):=⟨by simp[Em.lay],Nat.le_refl _⟩
theorem my (s:Em)(op a b u:Nat):Qle s (s.push op a b u):=⟨by simp[Em.push],by simp only[Em.push];omega⟩
theorem rk (s:Em)(n:Int):Qle s (s.kc n):=⟨Nat.le_refl _,Nat.le_refl _⟩
theorem xl (s:Em)(x:List UInt8):Qle s (s.kn x):=⟨Nat.le_refl _,Nat.le_refl _⟩
theorem cK (s:Em)(n:Int)(kd u:Nat):Qle s (s.con n kd u):=(rk s n).trans (my _ 1 _ kd u)
theorem eA (s:Em)(i:Nat):Qle s (s.land i):=⟨by simp[Em.land],Nat.le_refl _⟩
theorem tj (s:Em)(i:Nat)(k:Int):Qle s (s.cel i k):=⟨Nat.le_refl _,Nat.le_refl _⟩
def Qgr (f:Em->Em):Prop:=∀ s,Qle s (f s)
theorem Qgr.id:Qgr (fun s=>s):=Qle.refl
theorem jp {f g:Em->Em}(op:Nat)(hf:Qgr f)(hg:Qgr g):Qgr (fun s=>s.fork op f g):=fun s =>
 ((((aN s op 0 0).trans (hf _)).trans (aN _ 13 0 0)).trans (eA _ _)).trans ((hg _).trans (eA _ _))
theorem dY (h:Nat):∀ (l:List Int) (i:Nat),Qgr (eB h l i)
 | [],_=>Qgr.id
 | x::r,i=>fun s=>by
  unfold eB;by_cases e:x=(h:Int)
  ·rw[if_pos e];exact(aN s 19 i 0).trans (dY h r (i+1) _)
  ·rw[if_neg e];exact dY h r (i+1) s
def Qtr (t:Tr):Prop:=∀ ar u,Qgr (t ar u)
theorem tK (lv:List Int){t:Tr}(ht:Qtr t)(ar u:Nat):Qgr (bdy lv t ar u):=fun s=>(dY (ar+1) lv 0 s).trans (ht (ar+1) u _)
theorem qA (lv:List Int){t:Tr}(ht:Qtr t)(op:Nat)(v:Int)(ar u:Nat):Qgr (vX lv t op v ar u):=fun s =>
 jp 24 (f:=fun x=>(((bdy lv t ar u x).lay op s.ws.length 0).lay 25 0 0).con v 2 u) (fun x=>(((tK lv ht ar u x).trans (aN _ _ _ _)).trans (aN _ _ _ _)).trans (cK _ _ _ _)) (fun x=>cK _ _ _ _) s
theorem mi (lv:List Int){t:Tr}(ht:Qtr t){f:Nat->Em->Em}(hf:∀ g,Qgr (f g))(ar u:Nat):Qgr (mN lv t f ar u):=fun s =>
 ((((aN s 24 0 0).trans (tK lv ht ar u _)).trans (hf _ _)).trans (aN _ _ _ _)).trans (eA _ _)
theorem sM (lv:List Int)(n:Int){a t:Tr}(ha:Qtr a)(ht:Qtr t)(ar u:Nat):Qgr (qua lv n a t ar u):=fun s=>by
 unfold qua;split
 ·exact(ha ar u s).trans (qA lv ht 15 0 ar u _)
 split
 ·exact(ha ar u s).trans (qA lv ht 14 1 ar u _)
 split
 ·exact((ha ar u s).trans (cK _ _ _ _)).trans (mi lv ht (f:=fun g x=>((x.lay 14 g 0).con 1 1 (u+1)).lay 6 0 0) (fun g x=>((aN _ _ _ _).trans (cK _ _ _ _)).trans (aN _ _ _ _)) ar (u+1) _)
 split
 ·exact((ha ar u s).trans (cK _ _ _ _)).trans (mi lv ht (f:=fun _ x=>x.lay 6 0 0) (fun g x=>aN _ _ _ _) ar (u+1) _)
 ·exact((((ha ar u s).trans (cK _ _ _ _)).trans (cK _ _ _ _)).trans (mi lv ht (f:=fun _ x=>x.lay 26 (n-5).toNat 0) (fun g x=>aN _ _ _ _) ar (u+2) _)).trans (aN _ _ _ _)
theorem sS:∀ (T:List Tr) (i ar u:Nat),(∀ t ∈ T,Qtr t)->Qgr (kH T i ar u)
 | [],_,_,_,_=>Qgr.id
 | t::r,i,ar,u,h=>fun s=>(h t (List.mem_cons_self ..) ar (u+i) s).trans (sS r (i+1) ar u (fun x hx=>h x (List.mem_cons_of_mem _ hx)) _)
theorem zO (k n:Int)(nm:List UInt8)(kk:List Int):Qgr (opr k n nm kk):=fun s=>by
 unfold opr
 repeat' split
 all_goals first|exact aN _ _ _ _|exact(aN _ _ _ _).trans (aN _ _ _ _)|exact(xl _ _).trans (aN _ _ _ _)
theorem oQ {T:List Tr}(h:∀ t ∈ T,Qtr t)(i:Nat):Qtr (T.getD i noT):=by
 by_cases hi:i<T.length
 ·rw[List.getD_eq_getElem?_getD,List.getElem?_eq_getElem hi];exact h _ (List.getElem_mem hi)
 ·rw[List.getD_eq_getElem?_getD,List.getElem?_eq_none (by omega)];exact fun _ _=>Qgr.id
theorem oj (lv:List Int)(k n:Int)(nm:List UInt8)(kk:List Int){T:List Tr}(h:∀ t ∈ T,Qtr t):Qtr (prt lv k n nm kk T):=fun ar u s=>by
 have q0:=oQ h 0;have q1:=oQ h 1;have q2:=oQ h 2;unfold prt;split
 ·exact cK _ _ _ _
 split
 ·exact cK _ _ _ _
 split
 ·exact(rk _ _).trans (my _ _ _ _ _)
 split
 ·exact my _ _ _ _ _
 split
 ·exact(q0 ar u s).trans (jp 14 (q1 ar u) (fun x=>cK _ _ _ _) _)
 split
 ·exact(q0 ar u s).trans (jp 15 (q1 ar u) (fun x=>cK _ _ _ _) _)
 split
 ·exact(q0 ar u s).trans (jp 14 (q1 ar u) (q2 ar u) _)
 split
 ·exact((((tj _ _ _).trans (aN _ _ _ _)).trans (q0 ar u _)).trans (aN _ _ _ _)).trans (eA _ _)
 split
 ·exact sM lv n q0 q1 ar u s
 ·exact(sS T 0 ar u h s).trans (zO k n nm kk _)
theorem kW (lv:List Int):∀ (f:Fs),∀ t ∈ emF lv f,Qtr t
 | ⟨none⟩=>fun t ht=>by simp[emF] at ht
 | ⟨some ⟨k,n,nm,a,ks,r⟩⟩=>fun t ht=>by
  simp only[emF,List.mem_cons] at ht;rcases ht with rfl|ht
  ·exact oj lv k n nm (kdF ks) (kW lv ks)
  ·exact kW lv r t ht
end Go.Proofs.YtbjdkekhnajafaaGreatDoor
