import Derived.Test.YtejnhibajmncaaaDoorDocH
set_option maxRecDepth 100000
set_option maxHeartbeats 8000000
namespace Go.Proofs.YtejnhibajmncaaaDoor
open Go.ChangeShapes Go.WideShapes Go.ChangeAt Go.RowKit
set_option linter.unusedVariables false
set_option linter.unusedSimpArgs false
theorem rword_good (o a b:Int)(w:World)(h1:0<=o)(h2:o<=255)(h3:0<=a)(h4:a<=268435455)(h5:0<=b)(h6:b<=268435455) :
  Calls Tryd.prog 16 #[.int .i64 o,.int .i64 a,.int .i64 b] w fun e w' =>
   e=.returned (.tuple #[.int .u64 ((o*268435456+a)*268435456+b),.int .i64 0])/\w'=w:=by
 go_enter Tryd.func16,Tryd.ntmps16;go_wp2;go_ret2;exact⟨rfl,rfl⟩
theorem rword_bad (o a b:Int)(w:World)(h:¬(0<=o/\o<=255/\0<=a/\a<=268435455/\0<=b/\b<=268435455)) :
  Calls Tryd.prog 16 #[.int .i64 o,.int .i64 a,.int .i64 b] w fun e w'=>e=.returned (.tuple #[.int .u64 0,.int .i64 12])/\w'=w:=by
 have H:Hid (¬(0<=o/\o<=255/\0<=a/\a<=268435455/\0<=b/\b<=268435455)):=h;clear h;go_enter Tryd.func16,Tryd.ntmps16;go_wp2
 all_goals first|(exfalso;have:=H.out;omega)|(go_ret2;exact⟨rfl,rfl⟩)
def wdI (x:Wo):Int:=if x.op<=255/\x.a<=268435455/\x.b<=268435455 then encW x else 0
def wdW (l:List Wo):List Value:=l.map fun x=>.int .u64 (wdI x)
theorem wdW_ok {l:List Wo}(h:∀ x ∈ l,x.ok):wdW l=woV l:=List.map_congr_left fun x hx=>by show Value.int .u64 (wdI x)=_;unfold wdI;rw[if_pos (show x.op<=255/\x.a<=268435455/\x.b<=268435455 from h x hx)]
def wdE (x:Wo):Int:=if x.op<=255/\x.a<=268435455/\x.b<=268435455 then 0 else 12
theorem rword_all (x:Wo)(w:World):Calls Tryd.prog 16 #[.int .i64 (x.op:Nat),.int .i64 (x.a:Nat),.int .i64 (x.b:Nat)] w fun e w'=>e=.returned (.tuple #[.int .u64 (wdI x),.int .i64 (wdE x)])/\w'=w:=by
 unfold wdI wdE;by_cases h:x.op<=255/\x.a<=268435455/\x.b<=268435455
 ·rw[if_pos h,if_pos h];exact rword_good (x.op:Int) (x.a:Int) (x.b:Int) w (by omega) (by omega) (by omega) (by omega) (by omega) (by omega)
 ·rw[if_neg h,if_neg h];exact rword_bad (x.op:Int) (x.a:Int) (x.b:Int) w (by omega)
structure EmD (w:World)(o:Nat->Nat)(s:Em)(vw vc vn vk:Value):Prop where
 ws:Row w o 2 54 1 vw s.ws.length (wdW s.ws)
 cs:Row w o 3 3 1 vc s.cs.length (eiV s.cs)
 ns:Row w o 4 9 1 vn s.ns.length (esV s.ns)
 ks:Row w o 5 3 1 vk s.ks.length (eiV s.ks)
def EmOd (w:World)(e:Ex)(cells:List Int)(z:Ending)(w':World):Prop :=
 Below w.heap.size w w'/\((kindP cells e=0/\z=.returned (.tuple #[.agg nil4e,.int .i64 140])) \/
  (kindP cells e≠0/\(32768<(emA cells e).ws.length\/1024<(emA cells e).dp)/\z=.returned (.tuple #[.agg nil4e,.int .i64 190])) \/
  (kindP cells e≠0/\(emA cells e).ws.length<=32768/\(emA cells e).dp<=1024/\∃vw vc vn vk o',z=.returned (.tuple #[.agg #[vw,vc,vn,vk],.int .i64 0])/\(∀ k,k<w.heap.size->o' k=0)/\EmD w' o' (emA cells e) vw vc vn vk))
theorem newD {w2:World}{gk:Nat}(n:Nat)(hn:n<=1000)(p0 p1 p2 p3 p4:Value)(w3:World)(lv:List Int)(hlv:lv.length=n)
  (hw3:w3=(w2.alloc (.cells (madeCells (Value.int .i64 0).cells (n*1)) 3)).alloc (.cells #[p0,p1,p2,p3,p4,.slice none 0 0,.slice none 0 0,.slice (some ⟨gk,0,none⟩) n n,.slice none 0 0,.int .i64 0,.int .i64 0,.bool false] 52)) (hgk:gk=w2.heap.size) :
  ∃o3,DW w3 o3 (gk+1) p0 p1 p2 p3 p4 (de0 lv)/\Below w2.heap.size w2 w3/\∀ k,k<w2.heap.size->o3 k=0:=by
 obtain⟨z1,z2,z3,z4⟩:=al2 w2 (.cells (madeCells (Value.int .i64 0).cells (n*1)) 3) (.cells #[p0,p1,p2,p3,p4,.slice none 0 0,.slice none 0 0,.slice (some ⟨gk,0,none⟩) n n,.slice none 0 0,.int .i64 0,.int .i64 0,.bool false] 52);rw[<-hw3,<-hgk] at z1 z2 z3 z4;obtain⟨o',ho'⟩:∃o':Nat->Nat,o'=fun k=>if k=gk+1 then 1 else if k=gk then 5 else 0:=⟨_,rfl⟩
 have l1:o' (gk+1)=1:=by rw[ho'];simp
 have l5:o' gk=5:=by rw[ho'];show (if gk=gk+1 then 1 else if gk=gk then 5 else 0)=5;rw[if_neg (by omega),if_pos rfl]
 refine⟨o',⟨by simp[de0],_,_,_,_,⟨z2,l1⟩,Row.nil _ _ _ _ _,Row.nil _ _ _ _ _,Row.nil _ _ _ _ _,?_⟩,by rw[<-hgk];exact z4,fun k hk=>?_⟩
 ·have e1:(de0 lv).ks.length=n:=by simp[de0,hlv]
  have e2:eiV (de0 lv).ks=List.replicate n (Value.int .i64 0):=by simp[eiV,de0,hlv]
  have e3:madeCells (Value.int .i64 0).cells (n*1)=(List.replicate n (Value.int .i64 0)).toArray:=by
   apply Array.ext';simp only[madeCells,Value.cells];rw[List.eq_replicate_iff];refine⟨by simp,fun b hb=>?_⟩;simp[Nat.mod_one] at hb;exact hb.2.symm
  rw[e3] at z1;rw[e1,e2];refine⟨⟨by simp,.inr ⟨gk,n,_,rfl,Nat.zero_le _,z1,Nat.le_refl _,by unfold maxLen;omega,by simp,by simp⟩⟩,fun k hk=>?_⟩;simp[Value.ownBlock] at hk;rw[<-hk];exact l5
 ·rw[ho'];show (if k=gk+1 then 1 else if k=gk then 5 else 0)=0;rw[if_neg (by omega),if_neg (by omega)]
theorem Row.labq {w:World}{o o':Nat->Nat}{i j:Nat}{e:TypeId}{size:Nat}{v:Value}{n:Nat}{xs:List Value}(h:Row w o i e size v n xs)(ho:∀ k,o k=i->o' k=j):Row w o' j e size v n xs:=⟨h.1,fun k hk=>ho k (h.2 k hk)⟩
abbrev I68:Nat->Prop:=fun k=>6<=k/\k<=8
def maxL (l:List Int):List Int:=l.map fun y=>max y 1
theorem emitd_c (e:Ex)(ao:Option Addr)(cap:Nat)(cv:Value)(cells:List Int)(w:World)(hf:FitN e)(hn:-9223372036854775808<=e.n/\e.n<=9223372036854775807)(hr:e.kids.rng)(hc:InA w cv cells)(hcl:cells.length<=1000000000)(S:SnA w e.kids ao) :
  Calls Tryd.prog 6 #[plV e ao cap cv] w (EmOd w e cells):=by
 obtain⟨g,hg⟩:∃g,g=w.heap.size:=⟨_,rfl⟩
 obtain⟨w1,hw1⟩:∃w1,w1=(w.alloc (.cells #[.int .i64 e.k,.int .i64 e.n,stv e.nm,.slice ao e.kids.len cap,cv] 27)).alloc (.cells nil4e 33):=⟨_,rfl⟩
 obtain⟨z1,z2,z3,z4⟩:=al2 w (.cells #[.int .i64 e.k,.int .i64 e.n,stv e.nm,.slice ao e.kids.len cap,cv] 27) (.cells nil4e 33);rw[<-hw1,<-hg] at z1 z2 z3 z4;have B1:Below w.heap.size w w1:=by rw[<-hg];exact z4
 have HC:=right14_c e ao cap cv cells w1 hf (hc.below B1) hcl (SnA.below S B1);have hcv:=hc;obtain⟨ac,cc,rfl,-⟩:=hcv;rw[plV_out] at HC ⊢;have HG:=Lib.hid hg;clear hg;obtain⟨c0,c1,c2,c3,c4⟩:=cells5e z1;by_cases hk:kindP cells e=0
 ·rw[decide_eq_false (by simp[hk])] at HC;have HK:=Lib.hid hk;clear hk;go_enter Tryd.func6,Tryd.ntmps6;go_upto_region 1 with fail;rw[<-hw1,<-HG.out];clear hw1;go_upto_region 2 with (first|(go_at_call 13;refine HC.mono ?_;rintro z w2 ⟨rfl,B2⟩))
  have GZ:=(B2.block (g+1) (by omega)).trans z2;obtain⟨⟨d0,d1,d2,d3⟩,df⟩:=cells4e GZ;have df0:=df 0;have df1:=df 1;have df2:=df 2;have df3:=df 3;have BZ:Below g w w2:=z4.trans (B2.mono (by omega));have ZE:=set4e (.slice none 0 0) (.slice none 0 0) (.slice none 0 0) (.slice none 0 0) GZ;have hle:g<=g+1:=by omega
  have BE:=(((BZ.setCell (p:=⟨g+1,0,none⟩) hle (.slice none 0 0)).setCell (p:=⟨g+1,1,none⟩) hle (.slice none 0 0)).setCell (p:=⟨g+1,2,none⟩) hle (.slice none 0 0)).setCell (p:=⟨g+1,3,none⟩) hle (.slice none 0 0);obtain⟨⟨m0,m1,m2,m3⟩,-⟩:=cells4e ZE;have HBE:=Lib.hid BE;clear ZE BE GZ BZ HC z1 z2 z3 z4 B1 B2 c0 c1 c2 c3 c4;go_wp2;exact bodyPost_ret (v:=.tuple #[.agg nil4e,.int .i64 140]) (by simp[results,Tryd.results6,go_sem,m0,m1,m2,m3]) rfl ⟨by rw[<-HG.out];exact HBE.out,.inl ⟨HK.out,rfl⟩⟩
 ·rw[decide_eq_true hk] at HC;obtain⟨hok,hsz,hnc,hcb⟩:=kindP_ok hk hn hr;obtain⟨K,hK1,hsk⟩:=sk_of hk hok;have HK:=Lib.hid hk;clear hk;obtain⟨ii,hii,hzi0,hzi1,hzi2⟩:=info_parts infoInt3;have mk:∀ w:World,(Instr.makeSlice 25 (.int .i64 (cells.length:Nat)) (.int .i64 (cells.length:Nat))).run Tryd.prog w=.ok (.slice (some ⟨w.heap.size,0,none⟩) cells.length cells.length) (w.alloc (.cells (madeCells (Value.int .i64 0).cells (cells.length*1)) 3)):=fun w=>by
   have:=run_make (P:=Tryd.prog) w 25 3 ii _ Tryd.underlying25 hii hzi0 .i64 .i64 cells.length cells.length (by omega) (Int.le_refl _) (by rw[hzi2];omega) (by omega)
   rw[hzi1] at this;simpa only[Int.toNat_natCast] using this
  clear hii hzi0 hzi1 hzi2;go_enter Tryd.func6,Tryd.ntmps6;go_upto_region 1 with fail;rw[<-hw1,<-HG.out];clear hw1;go_upto_region 4 with (first|(go_at_call 13;refine HC.mono ?_;rintro z w2 ⟨rfl,B2⟩))
  have B12:Below w.heap.size w w2:=B1.trans (B2.mono B1.size);have y1:=(B2.block g (by omega)).trans z1;have y2:=(B2.block (g+1) (by omega)).trans z2;have L2:g+2<=w2.heap.size:=by rw[<-z3];exact B2.size
  clear c0 c1 c2 c3 c4 HC;obtain⟨c0,c1,c2,c3,c4⟩:=cells5e y1;have mk2:=mk w2;have mk3:=mk w2.drew;have y1d:=fun X:Obj=>(heap_alloc_old w2 X (by omega)).trans y1;have hX:=newD (w2:=w2) (gk:=w2.heap.size) cells.length (by omega) (.int .i64 e.k) (.int .i64 e.n) (stv e.nm) (.slice ao e.kids.len cap) (.slice ac cells.length cc) _ cells rfl rfl rfl;generalize madeCells (Value.int .i64 0).cells (cells.length*1)=X at *;obtain⟨d0,d1,d2,d3,d4⟩:=cells5e (y1d (.cells X 3));obtain⟨gk,hgk⟩:∃gk,gk=w2.heap.size:=⟨_,rfl⟩
  rw[<-hgk] at hX;obtain⟨wx,hwx⟩:∃wx,wx=(w2.alloc (.cells X 3)).alloc (.cells #[.int .i64 e.k,.int .i64 e.n,stv e.nm,.slice ao e.kids.len cap,.slice ac cells.length cc,.slice none 0 0,.slice none 0 0,.slice (some ⟨gk,0,none⟩) cells.length cells.length,.slice none 0 0,.int .i64 0,.int .i64 0,.bool false] 52):=⟨_,rfl⟩
  rw[<-hwx] at hX;have HX:=Lib.hid hX;have HGK:=Lib.hid hgk;have HWX:=Lib.hid hwx;clear y1d hX hgk hwx mk;go_region;go_upto_region 5 with fail;rw[<-HGK.out,<-HWX.out];obtain⟨o3,E3x,B3x,ho3⟩:=HX.out;have E3:=E3x.step ((Step.refl (fun _=>False) wx o3).drew) noF;have B3:Below gk w2 wx.drew:=B3x.drew;generalize wx.drew=w3 at *;obtain⟨rb,hrb⟩:∃rb,rb=gk+1:=⟨_,rfl⟩
  rw[<-hrb] at E3 ⊢;clear hrb HX HWX E3x B3x d0 d1 d2 d3 d4 mk2 mk3 c0 c1 c2 c3 c4;rw[<-HGK.out] at L2;have hlw:w2.heap.size=gk:=HGK.out.symm;have X3:DX w3 o3 (.slice ac cells.length cc) cells:=by
   obtain⟨ao,cap,hv,hx⟩:=hc.below B12;injection hv with h1 h2 h3
   subst h1 h3;refine⟨_,_,rfl,?_⟩;rcases hx with hx|⟨b,off,h1,h2,h3,h4⟩
   ·exact .inl hx
   ·rw[hlw] at h3;exact .inr ⟨b,off,h1,ho3 b h3,Nat.lt_of_lt_of_le h3 (by rw[<-hlw];exact B3.size),fun j x hj=>(B3.cell (p:=⟨b,off+j,none⟩) h3).trans (h4 j x hj)⟩
  have SN3:SnO w3 o3 e.kids ao:=(SnA.below S B12).mono (fun k _ hl=>B3.block k (by omega)) B3.size (fun k _ hl=>ho3 k (by omega));have b3p:Blk w3 o3 0 g (.cells #[.int .i64 e.k,.int .i64 e.n,stv e.nm,.slice ao e.kids.len cap,.slice ac cells.length cc] 27):=⟨(B3.block g (by omega)).trans y1,ho3 g (by omega)⟩
  have b3r:Blk w3 o3 0 (g+1) (.cells nil4e 33):=⟨(B3.block (g+1) (by omega)).trans y2,ho3 (g+1) (by omega)⟩
  have z0:(de0 cells).sz 0:=⟨by simp[de0],by simp[de0],by simp[de0],by simp[de0],by simp[de0],by simp[de0]⟩
  have HP:=partd_all K cells.length (e.kids.size+1) e ao cap 0 w3 o3 rb _ _ _ _ _ cells (de0 cells) 0 (by omega) hok hsk rfl hnc (by omega) (by omega) SN3 (by simp[de0]) z0 (by omega) X3 E3;rw[exN_out] at HP;have dA:=dle_deE cells e 0 (de0 cells);have zA:=(dle_puts _ 0 0 0).sz _ (dA.sz 0 z0);have BW:Below g w w3:=(by rw[<-HG.out] at B12;exact B12.trans (B3.mono (by omega)))
  have hR:=ry_A K cells cells.length e hsk hok;have hkD:(deA cells e).ks.length=cells.length:=((dle_puts _ 0 0 0).ks.trans dA.ks).trans (by simp[de0]);obtain⟨c0,c1,c2,c3,c4⟩:=cells5e b3p.1;rw[show ((0:Nat):Int)=0 from rfl] at HP;go_upto_region 6 with (first|(go_at_call 14;refine HP.mono ?_;rintro z w4 ⟨rfl,o4,E4,S4⟩))
  have HL:=puts_c w4 o4 rb _ _ _ _ _ (deE cells e 0 (de0 cells)) 0 0 0 E4;go_upto_region 7 with (first|(go_at_call 15;refine HL.mono ?_;rintro z w5 ⟨rfl,o5,E5,S5⟩))
  have heq:(deE cells e 0 (de0 cells)).puts 0 0 0=deA cells e:=rfl;rw[heq] at E5 zA;have S35:=S4.trans S5;have b5r:=b3r.step S35 not0;have ho5:∀ k,k<w.heap.size->o5 k=0:=fun k hk2=>by
   have hg:=HG.out;rw[S35.lab k (by have:=B3.size;omega)];exact ho3 k (by omega)
  have B5:Below g w w5:=BW.trans ⟨S35.os,S35.tape,S35.output,S35.size,fun k hk2=>S35.block k (by have:=B3.size;omega) (by rw[ho3 k (by omega)];exact not0)⟩;clear HP HL E4 S4 S5 S35 b3p b3r X3 SN3 E3 BW hsk hok dA z0 c0 c1 c2 c3 c4 B3 ho3 B12 y1 y2 B1 B2 z1 z2 z4 S hc hf hr;obtain⟨⟨d0,d1,d2,d3⟩,df⟩:=cells4e b5r.1;have df0:=df 0;have df1:=df 1;have df2:=df 2;have df3:=df 3;have hle:g<=g+1:=by omega
  obtain⟨l11,-⟩:=E5.cl;by_cases hq:okQ (emA cells e)
  ·have r:=hR.1 hq;rw[r.lg] at l11;obtain⟨wl,vc,vn,vk,vw,q0,q1,q2,q3,q4⟩:=E5;obtain⟨aw,cw,rfl⟩:=q1.form;obtain⟨ac2,cc2,rfl⟩:=q2.form;obtain⟨an,cn,rfl⟩:=q3.form;obtain⟨ak,ck,rfl⟩:=q4.form;obtain⟨⟨t4,t5,t6,t7,t8,t9,t10,t11⟩,-⟩:=cells12 q0.1;have qa:=fun X:Obj=>(heap_alloc_old w5 X q0.lt).trans q0.1;obtain⟨⟨-,u5,u6,-,-,-,-,-⟩,-⟩:=cells12 (qa (.cells nil4e 33));obtain⟨⟨-,v5,v6,-,-,-,-,-⟩,-⟩:=cells12 (show w5.drew.heap[rb]?=_ from q0.1);clear qa;obtain⟨gc,hgc⟩:∃gc,gc=w5.heap.size:=⟨_,rfl⟩
   have B6:Below g w (w5.alloc (.cells #[.slice none 0 0,.slice ac2 (deA cells e).cs.length cc2,.slice an (deA cells e).ns.length cn,.slice none 0 0] 33)).drew:=(B5.alloc (by have:=B5.size;have:=HG.out;omega) _).drew;have S6:∀ {I:Nat->Prop},Step I w5 o5 (w5.alloc (.cells #[.slice none 0 0,.slice ac2 (deA cells e).cs.length cc2,.slice an (deA cells e).ns.length cn,.slice none 0 0] 33)).drew (newLab w5 o5 6):=fun {I}=>(((Step.refl I w5 o5).labelled 6).alloc _).drew;have G6:Blk (w5.alloc (.cells #[.slice none 0 0,.slice ac2 (deA cells e).cs.length cc2,.slice an (deA cells e).ns.length cn,.slice none 0 0] 33)).drew (newLab w5 o5 6) 6 gc (.cells #[.slice none 0 0,.slice ac2 (deA cells e).cs.length cc2,.slice an (deA cells e).ns.length cn,.slice none 0 0] 33):=by rw[hgc];exact⟨heap_alloc_new _ _,newLab_new (Nat.le_refl _)⟩
   have HGC:=Lib.hid hgc;clear hgc;go_upto_region 9 with fail;go_region;go_upto_region 10 with fail;rw[<-HGC.out];generalize (w5.alloc (.cells #[.slice none 0 0,.slice ac2 (deA cells e).cs.length cc2,.slice an (deA cells e).ns.length cn,.slice none 0 0] 33)).drew=w6 at *;have Q0:=q0.step (S6 (I:=fun _=>False)) id;have Q1:=q1.step (S6 (I:=fun _=>False)) id;have Q2:=q2.step (S6 (I:=fun _=>False)) id;have Q3:=q3.step (S6 (I:=fun _=>False)) id;have Q4:=q4.step (S6 (I:=fun _=>False)) id;have b6r:=b5r.step (S6 (I:=fun _=>False)) id;have ho6:∀ k,k<w.heap.size->newLab w5 o5 6 k=0:=fun k hk2=>by
    rw[newLab_old (by have:=B5.size;omega)];exact ho5 k hk2
   generalize newLab w5 o5 6=o6 at *;generalize deA cells e=D at *;have hkl256:D.ks.length<=256:=by omega
   clear hkD heq q0 q1 q2 q3 q4 b5r B5 S6 ho5 hR zA t4 t5 t6 t7 t8 t9 t10 t11 u5 u6 v5 v6 d0 d1 d2 d3 df0 df1 df2 df3 df l11;have KW:Hid (∀ w' o',Step I68 w6 o6 w' o'->w'.cell? ⟨rb,7,none⟩=some (.slice ak D.ks.length ck)/\w'.cell? ⟨rb,8,none⟩=some (.slice aw D.ws.length cw)):=fun w' o' S=>by
    obtain⟨⟨t4,t5,t6,t7,t8,t9,t10,t11⟩,-⟩:=cells12 (Q0.step S (by decide)).1;exact⟨t7,t8⟩
   obtain⟨j1,j2,j3,j4,j5⟩:=info_parts infoEi;obtain⟨t7,t8⟩:=KW.out _ _ (Step.refl I68 w6 o6);go_wp2_with fail;go_loopw [7] (fun v wr=>∃(i:Nat) (o':Nat->Nat) (va:Option Addr) (cz:Nat),v=.int .i64 (i:Nat)/\i<=D.ks.length/\Blk wr o' 6 gc (.cells #[.slice none 0 0,.slice ac2 D.cs.length cc2,.slice an D.ns.length cn,.slice va i cz] 33)/\Row wr o' 7 3 1 (.slice va i cz) i (eiV (maxL (D.ks.take i)))/\Step I68 w6 o6 wr o') (fun v _=>D.ks.length-(intOf v).toNat)
   case atStart=>exact⟨0,o6,none,0,by go_num,by omega,G6,Row.nil _ _ _ _ _,Step.refl _ _ _⟩
   case round =>
    clear G6 t7 t8;obtain⟨i,o',va,cz,rfl,hi,G,R,S⟩:=hrel;obtain⟨t7,t8⟩:=KW.out _ _ S;obtain⟨⟨g0,g1,g2,g3⟩,gf⟩:=cells4e G.1;by_cases hlt:i<D.ks.length
    ·have hkI:(i:Int)<(D.ks.length:Int):=by omega
     obtain⟨gk2,capk,hsl,ogk,-,-,hgl,hck,hfk⟩:=(Q4.step S (by decide)).pos (by omega);injection hsl with hs1 hs2 hs3
     subst hs1 hs3;have rz:wr.cell? ⟨gk2,i,none⟩=some (.int .i64 (D.ks.getD i 0)):=by
      rw[hck i (by omega)];simp[eiV,hlt,List.getD_eq_getElem?_getD]
     obtain⟨M,hM⟩:∃M,M=max (D.ks.getD i 0) 1:=⟨_,rfl⟩
     have hY:Hid (eiV (maxL (D.ks.take (i+1)))=eiV (maxL (D.ks.take i))++[.int .i64 M]):=by
      have e1:maxL (D.ks.take (i+1))=maxL (D.ks.take i)++[M]:=by
       unfold maxL;rw[List.take_succ_eq_append_getElem hlt,List.map_append,hM];simp[hlt,List.getD_eq_getElem?_getD]
      show _=_;rw[e1,eiV,List.map_append];rfl
     have bA:i+1<=maxLen:=by unfold maxLen;omega
     have bB:(i+1)*8<=140737488355328:=by omega
     have sn1:∀ {I:Nat->Prop} (wz:World),Step I wz o' wz.drew o':=fun wz=>(Step.refl _ wz o').drew;have sa1:∀ {I:Nat->Prop},Step I wr o' (wr.alloc (.cells #[.int .i64 M] 3)) o':=fun {I}=>Step.ofBelow (I:=I) o' (b1 _ _);have Ra:=(R.step (sa1 (I:=fun _=>False)) id).step (sn1 (I:=fun _=>False) _) id;have Ga:=(G.step (sa1 (I:=fun _=>False)) id).step (sn1 (I:=fun _=>False) _) id;obtain⟨⟨a0,a1,a2,a3⟩,af⟩:=cells4e (G.step (sa1 (I:=fun _=>False)) id).1;subst hM;generalize D.ks.getD i 0=y at *;clear hck hfk;go_wp2_with fail;go_region_law ((refine step_append_lab rfl (.tmp 53) (.tmp 62) 25 rfl 3 j1 (.int .i64 0) 1 8 Tryd.underlying25 j2 j3 j4 j5 rfl (by decide) o' 7 (.slice va i cz) i (eiV (maxL (D.ks.take i))) (by simp[Act.eval,Act.put]) Ra ⟨wr.heap.size,0,none⟩ 1 1 [.int .i64 (max y 1)] (by simp[Act.eval,Act.put]) rfl (new_one wr _ _) (one1E _ rfl) (by decide) bA bB ?_;intro g5 c5 w7 o7 R7 S7;have G7:=Ga.step S7 (by decide);obtain⟨⟨h0,h1,h2,h3⟩,hf⟩:=cells4e G7.1;have hf3:=hf 3))
     all_goals
      have T8:Step (fun k=>k=6) w7 o7 (w7.setCell ⟨gc,3,none⟩ (.slice (some ⟨g5,0,none⟩) (i+1) c5)) o7:=setStep _ w7 o7 ⟨gc,3,none⟩ _ G7.2;have G8:=G7.set 3 (.slice (some ⟨g5,0,none⟩) (i+1) c5);have R8:=R7.step T8 (by decide);have S8:Step I68 w6 o6 (w7.setCell ⟨gc,3,none⟩ (.slice (some ⟨g5,0,none⟩) (i+1) c5)) o7:=(((S.trans sa1).trans (sn1 _)).trans (S7.mono (fun k hk=>by rw[hk];decide))).trans (T8.mono (fun k hk=>by rw[hk];decide));rw[<-hY.out] at R8;clear G7 R7 T8 S7 G R S Ra Ga sn1 sa1 hY a0 a1 a2 a3 h0 h1 h2 h3 hf hf3 g0 g1 g2 g3 gf t7 t8 rz af;generalize w7.setCell ⟨gc,3,none⟩ (.slice (some ⟨g5,0,none⟩) (i+1) c5)=w8 at *;go_wp2;go_roundw
      case rel=>(try ((repeat apply Exists.intro);refine⟨?_,rfl⟩));exact⟨i+1,o7,some ⟨g5,0,none⟩,c5,by go_num,by omega,G8,R8,S8⟩
      case measure=>simp[intOf];omega
    ·have hkI:¬(i:Int)<(D.ks.length:Int):=by omega
     obtain rfl:i=D.ks.length:=by omega
     rw[List.take_length] at R;clear hlt;have hwv:∃wv,wv=wr:=⟨_,rfl⟩
     obtain⟨wv,rfl⟩:=hwv;go_wp2_with fail;go_loopw [8] (fun v wq=>∃(j:Nat) (o2:Nat->Nat) (vb:Option Addr) (cb:Nat),v=.int .i64 (j:Nat)/\j<=D.ws.length/\Blk wq o2 6 gc (.cells #[.slice vb j cb,.slice ac2 D.cs.length cc2,.slice an D.ns.length cn,.slice va D.ks.length cz] 33)/\Row wq o2 8 54 1 (.slice vb j cb) j (wdW (D.ws.take j))/\Step (fun k=>k=6\/k=8) wv o' wq o2) (fun v _=>D.ws.length-(intOf v).toNat)
     case atStart=>exact⟨0,o',none,0,by go_num,by omega,G,Row.nil _ _ _ _ _,Step.refl _ _ _⟩
     case round =>
      clear G g0 g1 g2 g3 gf t7 t8;obtain⟨j,o2,vb,cb,rfl,hj,G2,R2,S2⟩:=hrel;have S62:Step I68 w6 o6 wr o2:=S.trans (S2.mono (fun k hk=>by rcases hk with hk|hk<;>(rw[hk];decide)));obtain⟨t7,t8⟩:=KW.out _ _ S62;obtain⟨⟨g0,g1,g2,g3⟩,gf⟩:=cells4e G2.1;by_cases hjt:j<D.ws.length
      ·have hkJ:(j:Int)<(D.ws.length:Int):=by omega
       obtain⟨gl,capl,hsl,ogl,-,-,hgl,hcl2,hfl⟩:=(Q1.step S62 (by decide)).pos (by omega);injection hsl with hs1 hs2 hs3
       subst hs1 hs3;have hat:∀ i,i<3->wr.cell? ⟨gl,j*3+i,none⟩=(insV D.ws[j])[i]?:=fun i hi=>by
        rw[hcl2 (j*3+i) (by omega),insL_at D.ws j i D.ws[j] (List.getElem?_eq_getElem hjt) hi]
       have hW:Hid (wdW (D.ws.take (j+1))=wdW (D.ws.take j)++[.int .u64 (wdI D.ws[j])]):=by
        show _=_;rw[List.take_succ_eq_append_getElem hjt,wdW,List.map_append];rfl
       generalize D.ws[j]=x at *;have x0:wr.cell? ⟨gl,j*3,none⟩=some (.int .i64 (x.op:Nat)):=hat 0 (by omega);have x1:wr.cell? ⟨gl,j*3+1,none⟩=some (.int .i64 (x.a:Nat)):=hat 1 (by omega);have x2:wr.cell? ⟨gl,j*3+2,none⟩=some (.int .i64 (x.b:Nat)):=hat 2 (by omega);have HWd:=fun wy=>rword_all x wy;have KQ:∀ q,Step (fun _=>False) wr o2 (wr.drewN q) o2:=fun q=>(Step.refl _ wr o2).drewN q;clear hat hcl2 hfl;go_wp2_with fail
       go_quiet ((go_at_call 16;exact Calls.quiet_of_same (HWd _)))
       have KQ:=KQ nq;have G3:=G2.step KQ id;have R3:=R2.step KQ id;have S3:Step I68 w6 o6 (wr.drewN nq) o2:=S62.trans (KQ.mono (fun k hk=>hk.elim));have S23:Step (fun k=>k=6\/k=8) wv o' (wr.drewN nq) o2:=S2.trans (KQ.mono (fun k hk=>hk.elim));generalize wr.drewN nq=w9 at *;clear g0 g1 g2 g3 gf t7 t8 x0 x1 x2 G2 R2 S2 HWd KQ;obtain⟨⟨g0,g1,g2,g3⟩,gf⟩:=cells4e G3.1;obtain⟨u1,u2,u3,u4,u5⟩:=info_parts infoEw;have bA:j+1<=maxLen:=by unfold maxLen;omega
       have bB:(j+1)*8<=140737488355328:=by omega
       obtain⟨ev,hev⟩:∃ev,ev=wdI x:=⟨_,rfl⟩
       rw[<-hev] at hW ⊢;generalize wdE x=er at *;have pr:=R3.step (Step.ofBelow (I:=fun _=>False) o2 (b1 w9 (.cells #[.int .u64 ev] 54))) id;clear hev;go_wp2_with (first|(at_builtin;refine wpList_append_lab rfl _ _ 30 rfl 54 u1 (.int .u64 0) 1 8 Tryd.underlying30 u2 u3 u4 u5 rfl (by decide) o2 8 (.slice vb j cb) j (wdW (D.ws.take j)) rfl pr ⟨w9.heap.size,0,none⟩ 1 1 [.int .u64 ev] rfl rfl (new_one _ _ _) (one1E _ rfl) (by decide) bA bB ?_)|go_in);intro g5 c5 w7 o7 R7 S7;have sa:∀ {I:Nat->Prop},Step I w9 o2 (w9.alloc (.cells #[.int .u64 ev] 54)) o2:=fun {I}=>Step.ofBelow (I:=I) o2 (b1 _ _);have G7:=(G3.step (sa (I:=fun _=>False)) id).step S7 (by decide);obtain⟨⟨h0,h1,h2,h3⟩,hf⟩:=cells4e G7.1;have hf0:=hf 0;have T8:Step (fun k=>k=6) w7 o7 (w7.setCell ⟨gc,0,none⟩ (.slice (some ⟨g5,0,none⟩) (j+1) c5)) o7:=setStep _ w7 o7 ⟨gc,0,none⟩ _ G7.2;have G8:=G7.set 0 (.slice (some ⟨g5,0,none⟩) (j+1) c5);have R8:=R7.step T8 (by decide);have S8:=((S23.trans sa).trans (S7.mono (J:=fun k=>k=6\/k=8) (fun k hk=>.inr hk))).trans (T8.mono (J:=fun k=>k=6\/k=8) (fun k hk=>.inl hk));rw[<-hW.out] at R8;clear G7 R7 T8 S7 G3 R3 S3 S23 pr sa g0 g1 g2 g3 gf hW;go_wp2;go_roundw
       case rel=>(try ((repeat apply Exists.intro);refine⟨?_,rfl⟩));exact⟨j+1,o7,some ⟨g5,0,none⟩,c5,by go_num,by omega,G8,R8,S8⟩
       case measure=>simp[intOf];omega
      ·have hkJ:¬(j:Int)<(D.ws.length:Int):=by omega
       obtain rfl:j=D.ws.length:=by omega
       rw[List.take_length] at R2;obtain⟨⟨d0,d1,d2,d3⟩,df⟩:=cells4e (b6r.step S62 (by decide)).1;have df0:=df 0;have df1:=df 1;have df2:=df 2;have df3:=df 3;have BR:Below g w wr:=B6.trans ⟨S62.os,S62.tape,S62.output,S62.size,fun k hk2=>S62.block k (by have:=B6.size;have:=HG.out;omega) (by rw[ho6 k (by have:=HG.out;omega)];decide)⟩;have b9:=b6r.step S62 (by decide);have ZE:=set4e (.slice vb D.ws.length cb) (.slice ac2 D.cs.length cc2) (.slice an D.ns.length cn) (.slice va D.ks.length cz) b9.1;have BE:=(((BR.setCell (p:=⟨g+1,0,none⟩) hle (.slice vb D.ws.length cb)).setCell (p:=⟨g+1,1,none⟩) hle (.slice ac2 D.cs.length cc2)).setCell (p:=⟨g+1,2,none⟩) hle (.slice an D.ns.length cn)).setCell (p:=⟨g+1,3,none⟩) hle (.slice va D.ks.length cz);have SE:Step (fun k=>k=0) wr o2 ((((wr.setCell ⟨g+1,0,none⟩ (.slice vb D.ws.length cb)).setCell ⟨g+1,1,none⟩ (.slice ac2 D.cs.length cc2)).setCell ⟨g+1,2,none⟩ (.slice an D.ns.length cn)).setCell ⟨g+1,3,none⟩ (.slice va D.ks.length cz)) o2:=((((Step.refl _ wr o2).setCell ⟨g+1,0,none⟩ _ b9.2).setCell ⟨g+1,1,none⟩ _ b9.2).setCell ⟨g+1,2,none⟩ _ b9.2).setCell ⟨g+1,3,none⟩ _ b9.2;obtain⟨⟨m0,m1,m2,m3⟩,-⟩:=cells4e ZE;have hks:(emA cells e).ks=maxL D.ks:=by
        apply List.ext_getElem?;intro i;have hkl:=r.kl;by_cases hi:i<D.ks.length
        ·have h1:=r.ks i (by omega);have hp:=hK1 i;unfold maxL;rw[List.getElem?_map,List.getElem?_eq_getElem hi,List.getElem?_eq_getElem (by omega)];simp only[List.getD_eq_getElem?_getD,List.getElem?_eq_getElem hi,List.getElem?_eq_getElem (show i<(emA cells e).ks.length by omega),Option.getD_some,Option.map_some] at h1 ⊢
         congr 1
         omega
        ·unfold maxL;rw[List.getElem?_eq_none (by omega),List.getElem?_eq_none (by simp;omega)]
       obtain⟨oz,hoz⟩:∃oz:Nat->Nat,oz=fun k=>if o2 k=8 then 2 else if o2 k=7 then 5 else if o2 k=2\/o2 k=5\/o2 k=6 then 9 else o2 k:=⟨_,rfl⟩
       have HCE:Hid (EmD ((((wr.setCell ⟨g+1,0,none⟩ (.slice vb D.ws.length cb)).setCell ⟨g+1,1,none⟩ (.slice ac2 D.cs.length cc2)).setCell ⟨g+1,2,none⟩ (.slice an D.ns.length cn)).setCell ⟨g+1,3,none⟩ (.slice va D.ks.length cz)) oz (emA cells e) (.slice vb D.ws.length cb) (.slice ac2 D.cs.length cc2) (.slice an D.ns.length cn) (.slice va D.ks.length cz)):=by
        refine⟨?_,?_,?_,?_⟩
        ·rw[<-r.ws];exact(R2.step SE (by decide)).labq (fun k hk=>by rw[hoz];simp only;rw[if_pos hk])
        ·rw[<-r.cs];exact((Q2.step S62 (by decide)).step SE (by decide)).labq (fun k hk=>by rw[hoz];simp only;rw[if_neg (by omega),if_neg (by omega),if_neg (by omega)];exact hk)
        ·rw[<-r.ns];exact((Q3.step S62 (by decide)).step SE (by decide)).labq (fun k hk=>by rw[hoz];simp only;rw[if_neg (by omega),if_neg (by omega),if_neg (by omega)];exact hk)
        ·rw[hks,show (maxL D.ks).length=D.ks.length by simp[maxL]];exact((R.step S2 (by decide)).step SE (by decide)).labq (fun k hk=>by rw[hoz];simp only;rw[if_neg (by omega),if_pos hk])
       have HO5:Hid (∀ k,k<w.heap.size->oz k=0):=fun k hk=>by
        have hz:o2 k=0:=by rw[S62.lab k (by have:=B6.size;have:=HG.out;omega)];exact ho6 k hk
        rw[hoz];simp only;rw[if_neg (by omega),if_neg (by omega),if_neg (by omega)];exact hz
       have HBE:=Lib.hid BE;have HQ:=Lib.hid hq;clear ZE BE SE BR b9 b6r Q0 Q1 Q2 Q3 Q4 R R2 S S2 S62 G2 KW hks hoz hq r hK1 ho6 B6 t7;go_wp2;exact bodyPost_ret (v:=.tuple #[.agg #[.slice vb D.ws.length cb,.slice ac2 D.cs.length cc2,.slice an D.ns.length cn,.slice va D.ks.length cz],.int .i64 0]) (by simp[results,Tryd.results6,go_sem,m0,m1,m2,m3]) rfl ⟨by rw[<-HG.out];exact HBE.out,.inr (.inr ⟨HK.out,HQ.out.1,HQ.out.2,_,_,_,_,oz,rfl,HO5.out,HCE.out⟩)⟩
  ·rw[hR.2 hq] at l11;have HQ:Hid (32768<(emA cells e).ws.length\/1024<(emA cells e).dp):=by show _\/_;unfold okQ at hq;omega
   have ZE:=set4e (.slice none 0 0) (.slice none 0 0) (.slice none 0 0) (.slice none 0 0) b5r.1;have BE:=(((B5.setCell (p:=⟨g+1,0,none⟩) hle (.slice none 0 0)).setCell (p:=⟨g+1,1,none⟩) hle (.slice none 0 0)).setCell (p:=⟨g+1,2,none⟩) hle (.slice none 0 0)).setCell (p:=⟨g+1,3,none⟩) hle (.slice none 0 0);obtain⟨⟨m0,m1,m2,m3⟩,-⟩:=cells4e ZE;have HBE:=Lib.hid BE;clear ZE BE B5 b5r E5 hR hkD zA hq df ho5;go_wp2;exact bodyPost_ret (v:=.tuple #[.agg nil4e,.int .i64 190]) (by simp[results,Tryd.results6,go_sem,m0,m1,m2,m3]) rfl ⟨by rw[<-HG.out];exact HBE.out,.inr (.inl ⟨HK.out,HQ.out,rfl⟩)⟩
abbrev StQ:=List Nat × Nat
abbrev ScQ:=Wo->Nat->StQ->Option (List (Nat × StQ))
def SegQ (sc:ScQ)(ex:Nat × StQ->Prop)(W:List Wo)(p q:Nat)(A B:StQ):Prop :=
 p<=q/\∃σ:Nat->StQ,σ p=A/\σ q=B/\(∀ i,p<=i->i<q->∃x,W[i]?=some x/\∃l,sc x i (σ i)=some l/\∀ y ∈ l,((p<=y.1/\y.1<=q/\y.2=σ y.1)\/ex y))/\∀ Kn:Nat->Prop,(∀ i x l y,p<=i->i<q->W[i]?=some x->sc x i (σ i)=some l->y ∈ l->Kn i->Kn y.1)->Kn p->Kn q
theorem SegQ.none (sc:ScQ)(ex:Nat × StQ->Prop)(W:List Wo)(p:Nat)(A:StQ):SegQ sc ex W p p A A:=⟨Nat.le_refl _,fun _=>A,rfl,rfl,fun i a b=>by omega,fun _ _ h=>h⟩
theorem SegQ.one {sc:ScQ}{ex:Nat × StQ->Prop}{W:List Wo}{p:Nat}{A B:StQ}{x:Wo}(hx:W[p]?=some x)(h:∃l,sc x p A=some l/\(p+1,B) ∈ l/\∀ y ∈ l,y=(p+1,B)\/ex y):SegQ sc ex W p (p+1) A B:=by
 obtain⟨l,h1,h0,h2⟩:=h;refine⟨by omega,fun i=>if i=p then A else B,by simp,by simp,fun i a b=>?_,fun Kn hc hp=>hc p x l (p+1,B) (Nat.le_refl _) (by omega) hx (by simpa using h1) h0 hp⟩;obtain rfl:i=p:=by omega
 refine⟨x,hx,l,by simpa using h1,fun y hy=>?_⟩;rcases h2 y hy with rfl|h3
 ·exact .inl ⟨by show i<=i+1;omega,Nat.le_refl _,by simp⟩
 ·exact .inr h3
theorem SegQ.trans {sc:ScQ}{ex:Nat × StQ->Prop}{W:List Wo}{p q r:Nat}{A B C:StQ}(h:SegQ sc ex W p q A B)(k:SegQ sc ex W q r B C):SegQ sc ex W p r A C:=by
 obtain⟨h1,σ,h2,h3,h4,h8⟩:=h;obtain⟨k1,τ,k2,k3,k4,k8⟩:=k;have hv:∀ i,i<=q->(if i<q then σ i else τ i)=σ i:=fun i hi=>by
  by_cases e:i<q
  ·rw[if_pos e]
  ·obtain rfl:i=q:=by omega
   rw[if_neg e,k2,h3]
 have hw:∀ i,q<=i->(if i<q then σ i else τ i)=τ i:=fun i hi=>by rw[if_neg (by omega)]
 refine⟨by omega,fun i=>if i<q then σ i else τ i,?_,?_,fun i a b=>?_,fun Kn hc hp=>k8 Kn (fun i x l y a b c d e f=>hc i x l y (by omega) b c (by show sc x i (if i<q then σ i else τ i)=some l;rw[hw i a];exact d) e f)
  (h8 Kn (fun i x l y a b c d e f=>hc i x l y a (by omega) c (by show sc x i (if i<q then σ i else τ i)=some l;rw[hv i (by omega)];exact d) e f) hp)⟩
 ·show (if p<q then σ p else τ p)=A;rw[hv p h1];exact h2
 ·show (if r<q then σ r else τ r)=C;rw[hw r k1];exact k3
 ·show ∃x,W[i]?=some x/\∃l,sc x i (if i<q then σ i else τ i)=some l/\∀ y ∈ l,(p<=y.1/\y.1<=r/\y.2=(if y.1<q then σ y.1 else τ y.1))\/ex y;by_cases e:i<q
  ·rw[hv i (by omega)];obtain⟨x,h5,l,h6,h7⟩:=h4 i a e;refine⟨x,h5,l,h6,fun y hy=>?_⟩;rcases h7 y hy with ⟨a1,a2,a3⟩|h8
   ·exact .inl ⟨a1,by omega,by rw[hv _ a2];exact a3⟩
   ·exact .inr h8
  ·rw[hw i (by omega)];obtain⟨x,h5,l,h6,h7⟩:=k4 i (by omega) b;refine⟨x,h5,l,h6,fun y hy=>?_⟩;rcases h7 y hy with ⟨a1,a2,a3⟩|h8
   ·exact .inl ⟨by omega,a2,by rw[hw _ a1];exact a3⟩
   ·exact .inr h8
theorem SegQ.fork {sc:ScQ}{ex:Nat × StQ->Prop}{W:List Wo}{i j r:Nat}{A A1 A2 B:StQ}{x:Wo}(hx:W[i]?=some x)(h0:sc x i A=some [(i+1,A1),(j+1,A2)])(h1:SegQ sc (fun y=>ex y\/y=(i,A)) W (i+1) j A1 B){z:Wo}(hz:W[j]?=some z)(h2:sc z j B=some [(r,B)])(h3:SegQ sc ex W (j+1) r A2 B):SegQ sc ex W i r A B:=by
 obtain⟨a1,σ,a2,a3,a4,-⟩:=h1;obtain⟨b1,τ,b2,b3,b4,b8⟩:=h3;refine⟨by omega,fun k=>if k=i then A else if k<=j then σ k else τ k,by simp,?_,fun k c d=>?_,fun Kn hc hp=>b8 Kn (fun k x l y a b c d e f=>hc k x l y (by omega) b c (by show sc x k (if k=i then A else if k<=j then σ k else τ k)=some l;rw[if_neg (by omega),if_neg (by omega)];exact d) e f)
  (hc i x _ (j+1,A2) (Nat.le_refl _) (by omega) hx (by show sc x i (if i=i then A else if i<=j then σ i else τ i)=_;rw[if_pos rfl];exact h0) (by simp) hp)⟩
 ·show (if r=i then A else if r<=j then σ r else τ r)=B;rw[if_neg (by omega),if_neg (by omega)];exact b3
 ·show ∃x,W[k]?=some x/\∃l,sc x k (if k=i then A else if k<=j then σ k else τ k)=some l/\∀ y ∈ l,(i<=y.1/\y.1<=r/\y.2=(if y.1=i then A else if y.1<=j then σ y.1 else τ y.1))\/ex y;by_cases e1:k=i
  ·subst e1;rw[if_pos rfl];refine⟨x,hx,_,h0,fun y hy=>.inl ?_⟩;simp only[List.mem_cons,List.not_mem_nil,or_false] at hy;rcases hy with rfl|rfl
   ·exact⟨by show k<=k+1;omega,by show k+1<=r;omega,by show A1=_;rw[if_neg (by omega),if_pos (by omega)];exact a2.symm⟩
   ·exact⟨by show k<=j+1;omega,by show j+1<=r;omega,by show A2=_;rw[if_neg (by omega),if_neg (by omega)];exact b2.symm⟩
  ·rw[if_neg e1];by_cases e2:k<j
   ·rw[if_pos (by omega)];obtain⟨x,h5,l,h6,h7⟩:=a4 k (by omega) e2;refine⟨x,h5,l,h6,fun y hy=>?_⟩;rcases h7 y hy with ⟨g1,g2,g3⟩|h8|h8
    ·exact .inl ⟨by omega,by omega,by rw[if_neg (by omega),if_pos g2];exact g3⟩
    ·exact .inr h8
    ·subst h8;exact .inl ⟨Nat.le_refl _,by show i<=r;omega,by simp⟩
   ·by_cases e3:k=j
    ·subst e3;rw[if_pos (Nat.le_refl _),a3];refine⟨z,hz,_,h2,fun y hy=>.inl ?_⟩;simp only[List.mem_cons,List.not_mem_nil,or_false] at hy;subst hy;exact⟨by show i<=r;omega,Nat.le_refl _,by show B=_;rw[if_neg (by omega),if_neg (by omega)];exact b3.symm⟩
    ·rw[if_neg (by omega)];obtain⟨x,h5,l,h6,h7⟩:=b4 k (by omega) d;refine⟨x,h5,l,h6,fun y hy=>?_⟩;rcases h7 y hy with ⟨g1,g2,g3⟩|h8
     ·exact .inl ⟨by omega,g2,by rw[if_neg (by omega),if_neg (by omega)];exact g3⟩
     ·exact .inr h8
theorem SegQ.loop {sc:ScQ}{ex:Nat × StQ->Prop}{W:List Wo}{i j:Nat}{A A1 B C:StQ}{x:Wo}(hx:W[i]?=some x)(h0:sc x i A=some [(i+1,A1),(j+1,B)])(h1:SegQ sc (fun y=>ex y\/y=(i,A)) W (i+1) j A1 C){z:Wo}(hz:W[j]?=some z)(h2:sc z j C=some [(i,A)]):SegQ sc ex W i (j+1) A B:=by
 obtain⟨a1,σ,a2,a3,a4,-⟩:=h1;refine⟨by omega,fun k=>if k=i then A else if k<=j then σ k else B,by simp,?_,fun k c d=>?_,fun Kn hc hp =>
  hc i x _ (j+1,B) (Nat.le_refl _) (by omega) hx (by show sc x i (if i=i then A else if i<=j then σ i else B)=_;rw[if_pos rfl];exact h0) (by simp) hp⟩
 ·show (if j+1=i then A else if j+1<=j then σ (j+1) else B)=B;rw[if_neg (by omega),if_neg (by omega)]
 ·show ∃x,W[k]?=some x/\∃l,sc x k (if k=i then A else if k<=j then σ k else B)=some l/\∀ y ∈ l,(i<=y.1/\y.1<=j+1/\y.2=(if y.1=i then A else if y.1<=j then σ y.1 else B))\/ex y;by_cases e1:k=i
  ·subst e1;rw[if_pos rfl];refine⟨x,hx,_,h0,fun y hy=>.inl ?_⟩;simp only[List.mem_cons,List.not_mem_nil,or_false] at hy;rcases hy with rfl|rfl
   ·exact⟨by show k<=k+1;omega,by show k+1<=j+1;omega,by show A1=_;rw[if_neg (by omega),if_pos (by omega)];exact a2.symm⟩
   ·exact⟨by show k<=j+1;omega,Nat.le_refl _,by show B=_;rw[if_neg (by omega),if_neg (by omega)]⟩
  ·rw[if_neg e1];by_cases e2:k<j
   ·rw[if_pos (by omega)];obtain⟨x,h5,l,h6,h7⟩:=a4 k (by omega) e2;refine⟨x,h5,l,h6,fun y hy=>?_⟩;rcases h7 y hy with ⟨g1,g2,g3⟩|h8|h8
    ·exact .inl ⟨by omega,by omega,by rw[if_neg (by omega),if_pos g2];exact g3⟩
    ·exact .inr h8
    ·subst h8;exact .inl ⟨Nat.le_refl _,by show i<=j+1;omega,by simp⟩
   ·obtain rfl:k=j:=by omega
    rw[if_pos (Nat.le_refl _),a3];refine⟨z,hz,_,h2,fun y hy=>.inl ?_⟩;simp only[List.mem_cons,List.not_mem_nil,or_false] at hy;subst hy;exact⟨Nat.le_refl _,by show i<=k+1;omega,by simp⟩
structure ScsQ (nq:Nat)(kc:Nat->Nat)(sc:ScQ):Prop where
 w1:∀ a b k l r,l.length+1<=1024->sc ⟨1,a,b⟩ k (l,r)=some [(k+1,(l++[b],r))]
 w2:∀ a b k l r,l.length+1<=1024->sc ⟨2,a,b⟩ k (l,r)=some [(k+1,(l++[3],r))]
 w3:∀ a b k l r,l.length+1<=1024->a<r->sc ⟨3,a,b⟩ k (l,r)=some [(k+1,(l++[3],r))]
 w4:∀ a b k l r,l.length+1<=1024->sc ⟨4,a,b⟩ k (l++[1],r)=some [(k+1,(l++[1],r))]
 w5:∀ a b k l r,l.length+1<=1024->sc ⟨5,a,b⟩ k (l++[2],r)=some [(k+1,(l++[2],r))]
 w6:∀ o a b k l r,6<=o->o<=10->l.length+2<=1024->sc ⟨o,a,b⟩ k (l++[1,1],r)=some [(k+1,(l++[1],r))]
 w11:∀ a b k l r,l.length+2<=1024->sc ⟨11,a,b⟩ k (l++[b,b],r)=some [(k+1,(l++[2],r))]
 w12:∀ a b k l r,l.length+2<=1024->sc ⟨12,a,b⟩ k (l++[1,1],r)=some [(k+1,(l++[2],r))]
 w13:∀ a b k s,sc ⟨13,a,b⟩ k s=some [(a,s)]
 w14:∀ o a b k l r,o=14\/o=15->l.length+1<=1024->sc ⟨o,a,b⟩ k (l++[2],r)=some [(k+1,(l,r)),(a,(l,r))]
 w16a:∀ a b k l r,a=1\/a=2->l.length+2<=1024->sc ⟨16,a,b⟩ k (l++[3,3],r)=some [(k+1,(l++[2],r))]
 w16b:∀ b k l r,l.length+2<=1024->sc ⟨16,3,b⟩ k (l++[3,3],r)=some [(k+1,(l++[1],r))]
 w16c:∀ b k l r,l.length+1<=1024->sc ⟨16,10,b⟩ k (l++[3],r)=some [(k+1,(l++[3],r))]
 w16d:∀ a b k l r,4<=a->a<=9->l.length+1<=1024->sc ⟨16,a,b⟩ k (l++[3],r)=some [(k+1,(l++[1],r))]
 w17:∀ a b k l r,l.length+1<=1024->sc ⟨17,a,b⟩ k (l,r)=some [(k+1,(l,r)),(b,(l++[kc a],r))]
 w18:∀ a b k l r,l.length+1<=1024->sc ⟨18,a,b⟩ k (l++[kc a],r)=some [(k+1,(l++[kc a],r))]
 w19:∀ a b k l r,l.length<=1024->sc ⟨19,a,b⟩ k (l,r)=some [(k+1,(l,r))]
 w20:∀ o a b k l r,o=20\/o=21->l.length<=1024->r<nq->sc ⟨o,a,b⟩ k (l,r)=some [(k+1,(l,r+1))]
 w22:∀ a b k l r,l.length+1<=1024->r<nq->sc ⟨22,a,b⟩ k (l++[3],r)=some [(k+1,(l,r+1))]
 w23:∀ a b k l r,l.length+a<=1024->r<nq->sc ⟨23,a,b⟩ k (l++List.replicate a 3,r)=some [(k+1,(l,r+1))]
 w24:∀ a b k l r,l.length<=1024->0<r->sc ⟨24,a,b⟩ k (l,r)=some [(k+1,(l,r)),(a,(l,r-1))]
 w25:∀ a b k l r,l.length<=1024->0<r->sc ⟨25,a,b⟩ k (l,r)=some [(k+1,(l,r-1))]
 w26:∀ a b k l r,l.length+3<=1024->sc ⟨26,a,b⟩ k (l++[1,2,1],r)=some [(k+1,(l++[1,2],r))]
 w27:∀ a b k l r,l.length+1<=1024->sc ⟨27,a,b⟩ k (l++[2],r)=some [(k+1,(l,r))]
def SgQ (sc:ScQ)(ex:Nat × StQ->Prop)(f:Em->Em)(A B:StQ):Prop:=∀ s,Inv s->(f s).dp<=1024->A.1.length<=1024 ->
 B.1.length<=1024/\∀ W:List Wo,(∀ i,s.ws.length<=i->i<(f s).ws.length->W[i]?=(f s).ws[i]?)->SegQ sc ex W s.ws.length (f s).ws.length A B
theorem SgQ.id (sc:ScQ)(ex:Nat × StQ->Prop)(A:StQ):SgQ sc ex (fun s=>s) A A:=fun s _ _ h=>⟨h,fun W _=>SegQ.none sc ex W _ A⟩
theorem SgQ.comp {sc:ScQ}{ex:Nat × StQ->Prop}{f g:Em->Em}{A B C:StQ}(h:SgQ sc ex f A B)(k:SgQ sc ex g B C)(hf:Gd f)(hg:Gd g)(qg:Qgr g):SgQ sc ex (fun s=>g (f s)) A C:=fun s hs hd hA=>by
 obtain⟨i1,p1⟩:=hf s hs;obtain⟨i2,p2⟩:=hg _ i1;obtain⟨b1,c1⟩:=h s hs (Nat.le_trans (qg (f s)).dp hd) hA;obtain⟨b2,c2⟩:=k (f s) i1 hd b1;refine⟨b2,fun W hW=>?_⟩;have l1:=p1.len;have l2:=p2.len;exact(c1 W (fun i a b=>(hW i a (Nat.lt_of_lt_of_le b l2)).trans (p2.at1 i b))).trans (c2 W (fun i a b=>hW i (by omega) b))
theorem SgQ.word {sc:ScQ}{ex:Nat × StQ->Prop}{f:Em->Em}{A B:StQ}(h:∀ s,∃x,(f s).ws=s.ws++[x]/\((f s).dp<=1024->A.1.length<=1024->B.1.length<=1024/\∃l,sc x s.ws.length A=some l/\(s.ws.length+1,B) ∈ l/\∀ y ∈ l,y=(s.ws.length+1,B)\/ex y)):SgQ sc ex f A B:=fun s hs hd hA=>by
 obtain⟨x,h1,h2⟩:=h s;obtain⟨h3,h4⟩:=h2 hd hA;refine⟨h3,fun W hW=>?_⟩;have hl:(f s).ws.length=s.ws.length+1:=by rw[h1];simp
 rw[hl];refine SegQ.one (x:=x) ?_ h4;rw[hW _ (Nat.le_refl _) (by omega),h1];simp
theorem SgQ.lay {sc:ScQ}{ex:Nat × StQ->Prop}{A B:StQ}(op a b:Nat)(h:A.1.length<=1024->B.1.length<=1024/\∀ k,sc ⟨op,a,b⟩ k A=some [(k+1,B)]):SgQ sc ex (fun s=>s.lay op a b) A B:=SgQ.word fun s=>⟨⟨op,a,b⟩,rfl,fun _ hA=>⟨(h hA).1,_,(h hA).2 _,.head _,fun y hy=>by simp at hy;exact .inl hy⟩⟩
theorem SgQ.con {nq:Nat}{kc:Nat->Nat}{sc:ScQ}(H:ScsQ nq kc sc){ex:Nat × StQ->Prop}(n:Int)(kd:Nat)(l:List Nat)(r:Nat):SgQ sc ex (fun s=>s.con n kd l.length) (l,r) (l++[kd],r):=SgQ.word fun s=>⟨⟨1,s.cs.idxOf n,kd⟩,rfl,fun hd _=>by
 have h1:l.length+1<=1024:=by
  have:(s.con n kd l.length).dp=max s.dp (l.length+1):=rfl
  omega
 exact⟨by simp;omega,_,H.w1 _ _ _ _ _ h1,.head _,fun y hy=>by simp at hy;exact .inl hy⟩⟩
theorem SgQ.vtx {nq:Nat}{kc:Nat->Nat}{sc:ScQ}(H:ScsQ nq kc sc){ex:Nat × StQ->Prop}(n:Int)(l:List Nat)(r:Nat):SgQ sc ex (fun s=>(s.kc n).push 2 (s.cs.idxOf n) 0 l.length) (l,r) (l++[3],r):=SgQ.word fun s=>⟨⟨2,s.cs.idxOf n,0⟩,rfl,fun hd _=>by
 have h1:l.length+1<=1024:=by
  have:((s.kc n).push 2 (s.cs.idxOf n) 0 l.length).dp=max s.dp (l.length+1):=rfl
  omega
 exact⟨by simp;omega,_,H.w2 _ _ _ _ _ h1,.head _,fun y hy=>by simp at hy;exact .inl hy⟩⟩
theorem SgQ.var {nq:Nat}{kc:Nat->Nat}{sc:ScQ}(H:ScsQ nq kc sc){ex:Nat × StQ->Prop}(a:Nat)(l:List Nat)(r:Nat)(ha:a<r):SgQ sc ex (fun s=>s.push 3 a 0 l.length) (l,r) (l++[3],r):=SgQ.word fun s=>⟨⟨3,a,0⟩,rfl,fun hd _=>by
 have h1:l.length+1<=1024:=by
  have:(s.push 3 a 0 l.length).dp=max s.dp (l.length+1):=rfl
  omega
 exact⟨by simp;omega,_,H.w3 _ _ _ _ _ h1 ha,.head _,fun y hy=>by simp at hy;exact .inl hy⟩⟩
theorem SgQ.nam {nq:Nat}{kc:Nat->Nat}{sc:ScQ}(H:ScsQ nq kc sc){ex:Nat × StQ->Prop}(x:List UInt8)(l:List Nat)(r:Nat)(hr:r<nq):SgQ sc ex (fun s=>(s.kn x).lay 21 (s.ns.idxOf x) 0) (l,r) (l,r+1):=SgQ.word fun s=>⟨⟨21,s.ns.idxOf x,0⟩,rfl,fun _ hA=>⟨hA,_,H.w20 _ _ _ _ _ _ (.inr rfl) hA hr,.head _,fun y hy=>by simp at hy;exact .inl hy⟩⟩
theorem fork_ws (op:Nat)(hop:op≠17){f g:Em->Em}(s:Em)(p2:Pre (s.lay op 0 0) (f (s.lay op 0 0)))(p5:Pre (((f (s.lay op 0 0)).lay 13 0 0).land s.ws.length) (g (((f (s.lay op 0 0)).lay 13 0 0).land s.ws.length))) :
  (s.fork op f g).ws[s.ws.length]?=some ⟨op,(f (s.lay op 0 0)).ws.length+1,0⟩ /\
  (s.fork op f g).ws[(f (s.lay op 0 0)).ws.length]?=some ⟨13,(s.fork op f g).ws.length,0⟩ /\
  (∀ i,s.ws.length+1<=i->i<(f (s.lay op 0 0)).ws.length->(s.fork op f g).ws[i]?=(f (s.lay op 0 0)).ws[i]?) /\
  (∀ i,(f (s.lay op 0 0)).ws.length+1<=i->(s.fork op f g).ws[i]?=(g (((f (s.lay op 0 0)).lay 13 0 0).land s.ws.length)).ws[i]?) /\
  (s.fork op f g).ws.length=(g (((f (s.lay op 0 0)).lay 13 0 0).land s.ws.length)).ws.length/\s.ws.length+1<=(f (s.lay op 0 0)).ws.length /\
  (((f (s.lay op 0 0)).lay 13 0 0).land s.ws.length).ws.length=(f (s.lay op 0 0)).ws.length+1/\(f (s.lay op 0 0)).ws.length+1<=(s.fork op f g).ws.length:=by
 have l1:(s.lay op 0 0).ws.length=s.ws.length+1:=by simp[Em.lay]
 have l2:=p2.len;have l3:(((f (s.lay op 0 0)).lay 13 0 0).land s.ws.length).ws.length=(f (s.lay op 0 0)).ws.length+1:=by rw[land_len];simp[Em.lay]
 have l5:=p5.len;have hF:s.fork op f g=(g (((f (s.lay op 0 0)).lay 13 0 0).land s.ws.length)).land (f (s.lay op 0 0)).ws.length:=rfl;have hl:(s.fork op f g).ws.length=(g (((f (s.lay op 0 0)).lay 13 0 0).land s.ws.length)).ws.length:=by rw[hF,land_len]
 have w1:(f (s.lay op 0 0)).ws[s.ws.length]?=some ⟨op,0,0⟩:=(p2.at1 s.ws.length (by omega)).trans (lay_last s op 0 0);generalize f (s.lay op 0 0)=F at *;have m1:∀ i,i<F.ws.length->((F.lay 13 0 0).land s.ws.length).ws[i]?=if s.ws.length=i then (F.ws[i]?).map (fun x=>x.to (F.ws.length+1)) else F.ws[i]?:=fun i hi=>by
  rw[land_at];have e:(F.lay 13 0 0).ws[i]?=F.ws[i]?:=by simp only[Em.lay];exact List.getElem?_append_left hi
  have e2:(F.lay 13 0 0).ws.length=F.ws.length+1:=by simp[Em.lay]
  rw[e,e2]
 have m2:((F.lay 13 0 0).land s.ws.length).ws[F.ws.length]?=some ⟨13,0,0⟩:=by
  rw[land_at,if_neg (by omega)];exact lay_last F 13 0 0
 generalize ((F.lay 13 0 0).land s.ws.length)=M at *;have n1:∀ i,i<F.ws.length+1->(g M).ws[i]?=M.ws[i]?:=fun i hi=>p5.at1 i (by omega);have n2:∀ i,(s.fork op f g).ws[i]?=if F.ws.length=i then ((g M).ws[i]?).map (fun x=>x.to (g M).ws.length) else (g M).ws[i]?:=fun i=>by rw[hF,land_at]
 refine⟨?_,?_,fun i a b=>?_,fun i a=>?_,hl,by omega,l3,by omega⟩
 ·rw[n2,if_neg (by omega),n1 _ (by omega),m1 _ (by omega),if_pos rfl,w1];simp[Wo.to,hop]
 ·rw[n2,if_pos rfl,n1 _ (by omega),m2,hl];simp[Wo.to]
 ·rw[n2,if_neg (by omega),n1 _ (by omega),m1 _ b,if_neg (by omega)]
 ·rw[n2,if_neg (by omega)]
theorem SgQ.fork {sc:ScQ}{ex:Nat × StQ->Prop}{s:Em}{op:Nat}{f g:Em->Em}{A A1 A2 B:StQ}(h17:op≠17)(h1:op≠1)(h2:op≠2)(h3:op≠21)(hf:Gd f)(hg:Gd g)(qg:Qgr g)(hA1:A.1.length<=1024->A1.1.length<=1024)(hA2:A.1.length<=1024->A2.1.length<=1024)
  (h0:A.1.length<=1024->∀ a k,sc ⟨op,a,0⟩ k A=some [(k+1,A1),(a,A2)]) (h13:∀ a k S,sc ⟨13,a,0⟩ k S=some [(a,S)])
  (kf:SgQ sc (fun y=>ex y\/y=(s.ws.length,A)) f A1 B) (kg:SgQ sc ex g A2 B) (hs:Inv s) (hd:(s.fork op f g).dp<=1024) (hA:A.1.length<=1024) :
  B.1.length<=1024/\∀ W:List Wo,(∀ i,s.ws.length<=i->i<(s.fork op f g).ws.length->W[i]?=(s.fork op f g).ws[i]?)->SegQ sc ex W s.ws.length (s.fork op f g).ws.length A B:=by
 obtain⟨i1,p1⟩:=gd_lay op 0 0 h1 h2 h3 s hs;obtain⟨i2,p2⟩:=hf _ i1;obtain⟨i3,p3⟩:=gd_lay 13 0 0 (by decide) (by decide) (by decide) _ i2
 dsimp only at i1 p1 i2 p2 i3 p3
 have l1:(s.lay op 0 0).ws.length=s.ws.length+1:=by simp[Em.lay]
 have hw1:((f (s.lay op 0 0)).lay 13 0 0).ws[s.ws.length]?=some ⟨op,0,0⟩:=((p2.trans p3).at1 s.ws.length (by omega)).trans (lay_last s op 0 0);have i4:=inv_land i3 hw1 h1 h2 h3;obtain⟨i5,p5⟩:=hg _ i4;obtain⟨y1,y2,y3,y4,y5,y6,y7,y8⟩:=fork_ws op h17 s p2 p5;have dg:(g (((f (s.lay op 0 0)).lay 13 0 0).land s.ws.length)).dp<=1024:=hd;have df:(f (s.lay op 0 0)).dp<=1024:=Nat.le_trans (show (f (s.lay op 0 0)).dp<=_ from (qg (((f (s.lay op 0 0)).lay 13 0 0).land s.ws.length)).dp) dg;obtain⟨b1,c1⟩:=kf _ i1 df (hA1 hA);obtain⟨b2,c2⟩:=kg _ i4 dg (hA2 hA);refine⟨b1,fun W hW=>?_⟩;have s1:=c1 W (fun i a b=>by rw[l1] at a;rw[hW i (by omega) (by omega),y3 i a b]);have s2:=c2 W (fun i a b=>by rw[y7] at a;rw[hW i (by omega) (by rw[y5];exact b),y4 i a]);rw[l1] at s1;rw[y7,<-y5] at s2;exact SegQ.fork ((hW _ (Nat.le_refl _) (by omega)).trans y1) (h0 hA _ _) s1 ((hW _ (by omega) (by omega)).trans y2) (h13 _ _ _) s2
theorem SgQ.gath {sc:ScQ}{ex:Nat × StQ->Prop}{s:Em}{f:Em->Em}{A A1 B C:StQ}(hf:Gd f)(hA1:A.1.length<=1024->A1.1.length<=1024)(hB:A.1.length<=1024->B.1.length<=1024)
  (h0:A.1.length<=1024->∀ a k,sc ⟨24,a,0⟩ k A=some [(k+1,A1),(a,B)]) (h13:∀ a k S,sc ⟨13,a,0⟩ k S=some [(a,S)]) (hC:C=A)
  (kf:SgQ sc (fun y=>ex y\/y=(s.ws.length,A)) f A1 C) (hs:Inv s) (hd:(((f (s.lay 24 0 0)).lay 13 s.ws.length 0).land s.ws.length).dp<=1024) (hA:A.1.length<=1024) :
  B.1.length<=1024/\∀ W:List Wo,(∀ i,s.ws.length<=i->i<(((f (s.lay 24 0 0)).lay 13 s.ws.length 0).land s.ws.length).ws.length->W[i]?=(((f (s.lay 24 0 0)).lay 13 s.ws.length 0).land s.ws.length).ws[i]?)->SegQ sc ex W s.ws.length (((f (s.lay 24 0 0)).lay 13 s.ws.length 0).land s.ws.length).ws.length A B:=by
 subst hC;obtain⟨i1,p1⟩:=gd_lay 24 0 0 (by decide) (by decide) (by decide) s hs;obtain⟨i2,p2⟩:=hf _ i1
 dsimp only at i1 p1 i2 p2
 have l1:(s.lay 24 0 0).ws.length=s.ws.length+1:=by simp[Em.lay]
 have l2:=p2.len;have w1:(f (s.lay 24 0 0)).ws[s.ws.length]?=some ⟨24,0,0⟩:=(p2.at1 s.ws.length (by omega)).trans (lay_last s 24 0 0);have df:(f (s.lay 24 0 0)).dp<=1024:=hd;obtain⟨b1,c1⟩:=kf _ i1 df (hA1 hA);refine⟨hB hA,fun W hW=>?_⟩;generalize f (s.lay 24 0 0)=F at *;have e2:(F.lay 13 s.ws.length 0).ws.length=F.ws.length+1:=by simp[Em.lay]
 have e3:((F.lay 13 s.ws.length 0).land s.ws.length).ws.length=F.ws.length+1:=by rw[land_len,e2]
 rw[e3] at hW ⊢;have m1:∀ i,i<F.ws.length->((F.lay 13 s.ws.length 0).land s.ws.length).ws[i]?=if s.ws.length=i then (F.ws[i]?).map (fun x=>x.to (F.ws.length+1)) else F.ws[i]?:=fun i hi=>by
  rw[land_at];have e:(F.lay 13 s.ws.length 0).ws[i]?=F.ws[i]?:=by simp only[Em.lay];exact List.getElem?_append_left hi
  rw[e,e2]
 have m2:((F.lay 13 s.ws.length 0).land s.ws.length).ws[F.ws.length]?=some ⟨13,s.ws.length,0⟩:=by
  rw[land_at,if_neg (by omega)];exact lay_last F 13 s.ws.length 0
 have s1:=c1 W (fun i a b=>by rw[l1] at a;rw[hW i (by omega) (by omega),m1 i b,if_neg (by omega)]);rw[l1] at s1;refine SegQ.loop (x:=⟨24,F.ws.length+1,0⟩) ?_ (h0 hA _ _) s1 ((hW _ (by omega) (by omega)).trans m2) (h13 _ _ _);rw[hW _ (Nat.le_refl _) (by omega),m1 _ (by omega),if_pos rfl,w1];simp[Wo.to]
theorem SegQ.end1 {sc:ScQ}{ex:Nat × StQ->Prop}{W:List Wo}{p q:Nat}{A B:StQ}(h:SegQ sc (fun y=>ex y\/y=(q,B)) W p q A B):SegQ sc ex W p q A B:=by
 obtain⟨h1,σ,h2,h3,h4,h9⟩:=h;refine⟨h1,σ,h2,h3,fun i a b=>?_,h9⟩;obtain⟨x,h5,l,h6,h7⟩:=h4 i a b;refine⟨x,h5,l,h6,fun y hy=>?_⟩;rcases h7 y hy with h8|h8|h8
 ·exact .inl h8
 ·exact .inr h8
 ·subst h8;exact .inl ⟨h1,Nat.le_refl _,h3.symm⟩
def NdQ (sc:ScQ)(t:Tr)(k:Int)(ar:Nat):Prop:=(k≠4->∀ ex (l:List Nat),SgQ sc ex (t ar l.length) (l,ar) (l++[k.toNat],ar))/\(k=4->∀ ex (l:List Nat),SgQ sc ex (t ar l.length) (l,ar) (l,ar+1))
def TkL (sc:ScQ)(pk:Int)(ar:Nat):List Tr->List Int->Nat->Prop
 | [],[],_=>True
 | t::T,k::kd,i=>NdQ sc t k (if pk=21/\i≠0 then ar+1 else ar)/\TkL sc pk ar T kd (i+1)
 | _,_,_=>False
theorem TkL.len {sc:ScQ}{pk:Int}{ar:Nat}:∀ {T:List Tr}{kd:List Int}{i:Nat},TkL sc pk ar T kd i->T.length=kd.length
 | [],[],_,_=>rfl
 | t::T,k::kd,i,h=>by simp only[List.length_cons,h.2.len]
 | [],k::kd,_,h=>by simp[TkL] at h
 | t::T,[],_,h=>by simp[TkL] at h
theorem SgQ.cell {nq:Nat}{kc:Nat->Nat}{sc:ScQ}(H:ScsQ nq kc sc){ex:Nat × StQ->Prop}{f:Em->Em}(n:Nat)(kd:Int)(l:List Nat)(r:Nat)(hf:Gd f)(kf:∀ ex,SgQ sc ex f (l,r) (l++[kc n],r)):SgQ sc ex (fun s=>((f ((s.cel n kd).lay 17 n 0)).lay 18 n 0).land s.ws.length) (l,r) (l++[kc n],r):=fun s hs hd hA=>by
 have ic:Inv (s.cel n kd):=⟨hs.nc,hs.nn,hs.wc,hs.wn,hs.uc,hs.un⟩
 obtain⟨i1,p1⟩:=gd_lay 17 n 0 (by decide) (by decide) (by decide) _ ic;obtain⟨i2,p2⟩:=hf _ i1
 dsimp only at i1 p1 i2 p2
 have l1:((s.cel n kd).lay 17 n 0).ws.length=s.ws.length+1:=by simp[Em.lay,Em.cel]
 have l2:=p2.len;have w1:(f ((s.cel n kd).lay 17 n 0)).ws[s.ws.length]?=some ⟨17,n,0⟩:=(p2.at1 s.ws.length (by omega)).trans (lay_last (s.cel n kd) 17 n 0);have df:(f ((s.cel n kd).lay 17 n 0)).dp<=1024:=hd;obtain⟨b1,c1⟩:=kf (fun y=>ex y\/y=((f ((s.cel n kd).lay 17 n 0)).ws.length+1,(l++[kc n],r))) _ i1 df hA;refine⟨b1,fun W hW=>?_⟩;have hl:l.length+1<=1024:=by simpa using b1
 dsimp only at hW ⊢
 generalize f ((s.cel n kd).lay 17 n 0)=F at *;have e2:(F.lay 18 n 0).ws.length=F.ws.length+1:=by simp[Em.lay]
 have e3:((F.lay 18 n 0).land s.ws.length).ws.length=F.ws.length+1:=by rw[land_len,e2]
 rw[e3] at hW ⊢;have m1:∀ i,i<F.ws.length->((F.lay 18 n 0).land s.ws.length).ws[i]?=if s.ws.length=i then (F.ws[i]?).map (fun x=>x.to (F.ws.length+1)) else F.ws[i]?:=fun i hi=>by
  rw[land_at];have e:(F.lay 18 n 0).ws[i]?=F.ws[i]?:=by simp only[Em.lay];exact List.getElem?_append_left hi
  rw[e,e2]
 have m2:((F.lay 18 n 0).land s.ws.length).ws[F.ws.length]?=some ⟨18,n,0⟩:=by
  rw[land_at,if_neg (by omega)];exact lay_last F 18 n 0
 have s1:=c1 W (fun i a b=>by rw[l1] at a;rw[hW i (by omega) (by omega),m1 i b,if_neg (by omega)]);rw[l1] at s1;have s0:SegQ sc (fun y=>ex y\/y=(F.ws.length+1,(l++[kc n],r))) W s.ws.length (s.ws.length+1) (l,r) (l,r):=by
  refine SegQ.one (x:=⟨17,n,F.ws.length+1⟩) ?_ ⟨_,H.w17 _ _ _ _ _ hl,.head _,fun y hy=>?_⟩
  ·rw[hW _ (Nat.le_refl _) (by omega),m1 _ (by omega),if_pos rfl,w1];simp[Wo.to]
  ·simp only[List.mem_cons,List.not_mem_nil,or_false] at hy;rcases hy with rfl|rfl
   ·exact .inl rfl
   ·exact .inr (.inr rfl)
 have s2:SegQ sc (fun y=>ex y\/y=(F.ws.length+1,(l++[kc n],r))) W F.ws.length (F.ws.length+1) (l++[kc n],r) (l++[kc n],r) :=
  SegQ.one ((hW _ (by omega) (by omega)).trans m2) ⟨_,H.w18 _ _ _ _ _ hl,.head _,fun y hy=>by simp at hy;exact .inl hy⟩
 exact((s0.trans s1).trans s2).end1
theorem SgQ.clrs {nq:Nat}{kc:Nat->Nat}{sc:ScQ}(H:ScsQ nq kc sc){ex:Nat × StQ->Prop}(h:Nat)(A:StQ):∀ (lv:List Int) (i:Nat),SgQ sc ex (clrs h lv i) A A
 | [],_=>SgQ.id sc ex A
 | x::lv,i=>by
  have hr:=SgQ.clrs H (ex:=ex) h A lv (i+1);by_cases e:x=(h:Int)
  ·have h1:SgQ sc ex (fun s=>Go.Proofs.YtejnhibajmncaaaDoor.clrs h lv (i+1) (s.lay 19 i 0)) A A:=(SgQ.lay 19 i 0 (fun hA=>⟨hA,fun k=>H.w19 _ _ _ _ _ hA⟩)).comp hr (gd_lay 19 i 0 (by decide) (by decide) (by decide)) (gd_clrs h lv (i+1)) (qgr_clrs h lv (i+1));have e1:Go.Proofs.YtejnhibajmncaaaDoor.clrs h (x::lv) i=fun s=>Go.Proofs.YtejnhibajmncaaaDoor.clrs h lv (i+1) (s.lay 19 i 0):=by funext s;show Go.Proofs.YtejnhibajmncaaaDoor.clrs h lv (i+1) (if x=(h:Int) then s.lay 19 i 0 else s)=_;rw[if_pos e]
   rw[e1];exact h1
  ·have e1:Go.Proofs.YtejnhibajmncaaaDoor.clrs h (x::lv) i=fun s=>Go.Proofs.YtejnhibajmncaaaDoor.clrs h lv (i+1) s:=by funext s;show Go.Proofs.YtejnhibajmncaaaDoor.clrs h lv (i+1) (if x=(h:Int) then s.lay 19 i 0 else s)=_;rw[if_neg e]
   rw[e1];exact hr
theorem SgQ.seq {sc:ScQ}{pk:Int}{ar:Nat}(hp:pk≠21):∀ (T:List Tr) (kd:List Int) (i j:Nat) (ex:Nat × StQ->Prop) (l0:Nat) (l:List Nat),TkL sc pk ar T kd i->(∀ k ∈ kd,k≠4)->(∀ t ∈ T,∀ ar u,Gd (t ar u))->(∀ t ∈ T,Qtr t)->l.length=l0+j ->
  SgQ sc ex (seqT T j ar l0) (l,ar) (l++kd.map Int.toNat,ar)
 | [],[],_,_,ex,l0,l,_,_,_,_,_=>by
  rw[List.map_nil,List.append_nil];exact SgQ.id sc ex (l,ar)
 | t::T,k::kd,i,j,ex,l0,l,h,hk,hg,hq,hl=>by
  have h1:=h.1.1 (hk k (List.mem_cons_self ..)) ex l;rw[if_neg (fun h=>hp h.1),hl] at h1;have h2:=SgQ.seq hp T kd (i+1) (j+1) ex l0 (l++[k.toNat]) h.2 (fun x hx=>hk x (List.mem_cons_of_mem _ hx)) (fun x hx=>hg x (List.mem_cons_of_mem _ hx)) (fun x hx=>hq x (List.mem_cons_of_mem _ hx)) (by simp;omega);have h3:=h1.comp h2 (hg t (List.mem_cons_self ..) _ _) (gd_seq T (j+1) ar l0 (fun x hx=>hg x (List.mem_cons_of_mem _ hx))) (qgr_seq T (j+1) ar l0 (fun x hx=>hq x (List.mem_cons_of_mem _ hx)));rw[List.append_assoc] at h3;exact h3
 | [],k::kd,_,_,_,_,_,h,_,_,_,_=>by simp[TkL] at h
 | t::T,[],_,_,_,_,_,h,_,_,_,_=>by simp[TkL] at h
theorem NdQ.bdy {nq:Nat}{kc:Nat->Nat}{sc:ScQ}(H:ScsQ nq kc sc)(lv:List Int){t:Tr}{k:Int}{ar:Nat}(h:NdQ sc t k (ar+1))(h4:k≠4)(hg:∀ ar u,Gd (t ar u))(hq:Qtr t)(ex:Nat × StQ->Prop)(l:List Nat):SgQ sc ex (bdy lv t ar l.length) (l,ar+1) (l++[k.toNat],ar+1) :=
 (SgQ.clrs H (ar+1) (l,ar+1) lv 0).comp (h.1 h4 ex l) (gd_clrs (ar+1) lv 0) (hg _ _) (hq _ _)
theorem SgQ.srch {nq:Nat}{kc:Nat->Nat}{sc:ScQ}(H:ScsQ nq kc sc)(lv:List Int){t:Tr}{ar:Nat}(h:NdQ sc t 2 (ar+1))(hg:∀ ar u,Gd (t ar u))(hq:Qtr t)(ex:Nat × StQ->Prop)(l:List Nat)(op:Nat)(v:Int)(ho:op=14\/op=15):SgQ sc ex (srch lv t op v ar l.length) (l,ar+1) (l++[2],ar):=fun s hs hd hA=>by
 have o1:op≠1:=by omega
 have o2:op≠2:=by omega
 have o3:op≠21:=by omega
 refine SgQ.fork (A1:=(l,ar+1)) (A2:=(l,ar)) (op:=24) (by decide) (by decide) (by decide) (by decide) ?_ (gd_con _ _ _) (fun x=>qle_con _ _ _ _) (fun h=>h) (fun h=>h) (fun hA a k=>?_) (fun a k S=>H.w13 _ _ _ _) ?_ (SgQ.con H _ 2 l ar) hs hd hA
 ·exact(((gd_bdy lv hg ar _).comp (gd_lay op _ 0 o1 o2 o3)).comp (gd_lay 25 0 0 (by decide) (by decide) (by decide))).comp (gd_con v 2 _)
 ·have:=H.w24 a 0 k l (ar+1) hA (by omega)
  simpa using this
 ·have b1:=NdQ.bdy H lv h (by decide) hg hq (fun y=>ex y\/y=(s.ws.length,(l,ar+1))) l;have b2:SgQ sc (fun y=>ex y\/y=(s.ws.length,(l,ar+1))) (fun x=>x.lay op s.ws.length 0) (l++[2],ar+1) (l,ar+1):=SgQ.word fun x=>⟨⟨op,s.ws.length,0⟩,rfl,fun _ hA=>⟨by simp at hA ⊢;omega,_,H.w14 op _ _ _ l _ ho (by simpa using hA),.head _,fun y hy=>by
   simp only[List.mem_cons,List.not_mem_nil,or_false] at hy;rcases hy with rfl|rfl
   ·exact .inl rfl
   ·exact .inr (.inr rfl)⟩⟩
  have b3:SgQ sc (fun y=>ex y\/y=(s.ws.length,(l,ar+1))) (fun x=>x.lay 25 0 0) (l,ar+1) (l,ar):=SgQ.lay 25 0 0 (fun hA=>⟨hA,fun k=>by simpa using H.w25 0 0 k l (ar+1) hA (by omega)⟩);exact((b1.comp b2 (gd_bdy lv hg ar _) (gd_lay op _ 0 o1 o2 o3) (fun x=>qle_lay _ _ _ _)).comp b3 ((gd_bdy lv hg ar _).comp (gd_lay op _ 0 o1 o2 o3)) (gd_lay 25 0 0 (by decide) (by decide) (by decide)) (fun x=>qle_lay _ _ _ _)).comp (SgQ.con H v 2 l ar) (((gd_bdy lv hg ar _).comp (gd_lay op _ 0 o1 o2 o3)).comp (gd_lay 25 0 0 (by decide) (by decide) (by decide))) (gd_con v 2 _) (fun x=>qle_con _ _ _ _)
theorem SgQ.gathF {nq:Nat}{kc:Nat->Nat}{sc:ScQ}(H:ScsQ nq kc sc)(lv:List Int){t:Tr}{k:Int}{ar:Nat}(h:NdQ sc t k (ar+1))(h4:k≠4)(hg:∀ ar u,Gd (t ar u))(hq:Qtr t)(ex:Nat × StQ->Prop)(l:List Nat)(f:Nat->Em->Em)(gf:∀ g,Gd (f g))(qf:∀ g,Qgr (f g))
  (hf:∀ g,SgQ sc (fun y=>ex y\/y=(g,(l,ar+1))) (f g) (l++[k.toNat],ar+1) (l,ar+1)):SgQ sc ex (Go.Proofs.YtejnhibajmncaaaDoor.gath lv t f ar l.length) (l,ar+1) (l,ar):=fun s hs hd hA =>
 SgQ.gath (s:=s) (f:=fun x=>f s.ws.length (Go.Proofs.YtejnhibajmncaaaDoor.bdy lv t ar l.length x)) (A1:=(l,ar+1)) (C:=(l,ar+1)) ((gd_bdy lv hg ar _).comp (gf _)) (fun h=>h) (fun h=>h) (fun hA a k=>by have:=H.w24 a 0 k l (ar+1) hA (by omega);simpa using this) (fun a k S=>H.w13 _ _ _ _) rfl
  ((NdQ.bdy H lv h h4 hg hq _ l).comp (hf _) (gd_bdy lv hg ar _) (gf _) (qf _)) hs hd hA
theorem NdQ.qua {nq:Nat}{kc:Nat->Nat}{sc:ScQ}(H:ScsQ nq kc sc)(lv:List Int)(n:Int)(hn:1<=n/\n<=6){a t:Tr}{ar:Nat}(ha:NdQ sc a 4 ar)(ht:NdQ sc t (if n<=3 then 2 else 1) (ar+1))(ga:∀ ar u,Gd (a ar u))(gt:∀ ar u,Gd (t ar u))(qa:Qtr a)(qt:Qtr t)(ex:Nat × StQ->Prop)(l:List Nat) :
  SgQ sc ex (qua lv n a t ar l.length) (l,ar) (l++[if n<=2 then 2 else 1],ar):=by
 have a1:=ha.2 rfl ex l;have c1:=SgQ.con H (ex:=ex) 0 1 l (ar+1);have a2:=a1.comp c1 (ga _ _) (gd_con 0 1 _) (fun x=>qle_con _ _ _ _);have hl1:(l++[1]).length=l.length+1:=by simp
 by_cases n1:n=1
 ·subst n1;exact a1.comp (SgQ.srch H lv ht gt qt ex l 15 0 (.inr rfl)) (ga _ _) (gd_srch lv gt 15 0 (by decide) (by decide) (by decide) ar _) (qgr_srch lv qt 15 0 ar _)
 by_cases n2:n=2
 ·subst n2;exact a1.comp (SgQ.srch H lv ht gt qt ex l 14 1 (.inl rfl)) (ga _ _) (gd_srch lv gt 14 1 (by decide) (by decide) (by decide) ar _) (qgr_srch lv qt 14 1 ar _)
 by_cases n3:n=3
 ·subst n3;have gf:∀ g,Gd (fun x:Em=>((x.lay 14 g 0).con 1 1 (l.length+1)).lay 6 0 0):=fun g=>((gd_lay 14 g 0 (by decide) (by decide) (by decide)).comp (gd_con 1 1 _)).comp (gd_lay 6 0 0 (by decide) (by decide) (by decide));have qf:∀ g,Qgr (fun x:Em=>((x.lay 14 g 0).con 1 1 (l.length+1)).lay 6 0 0):=fun g x=>((qle_lay _ _ _ _).trans (qle_con _ _ _ _)).trans (qle_lay _ _ _ _);have g1:=SgQ.gathF H lv ht (by decide) gt qt ex (l++[1]) (fun g x=>((x.lay 14 g 0).con 1 1 (l.length+1)).lay 6 0 0) gf qf (fun g=>by
   have b2:SgQ sc (fun y=>ex y\/y=(g,(l++[1],ar+1))) (fun x=>x.lay 14 g 0) (l++[1]++[2],ar+1) (l++[1],ar+1):=SgQ.word fun x=>⟨⟨14,g,0⟩,rfl,fun _ hA=>⟨by simp at hA ⊢;omega,_,H.w14 14 _ _ _ (l++[1]) _ (.inl rfl) (by simpa using hA),.head _,fun y hy=>by
    simp only[List.mem_cons,List.not_mem_nil,or_false] at hy;rcases hy with rfl|rfl
    ·exact .inl rfl
    ·exact .inr (.inr rfl)⟩⟩
   have b3:=SgQ.con H (ex:=fun y=>ex y\/y=(g,(l++[1],ar+1))) 1 1 (l++[1]) (ar+1);rw[hl1,List.append_assoc] at b3;have b4:SgQ sc (fun y=>ex y\/y=(g,(l++[1],ar+1))) (fun x=>x.lay 6 0 0) (l++([1]++[1]),ar+1) (l++[1],ar+1):=SgQ.lay 6 0 0 (fun hA=>⟨by simp at hA ⊢;omega,fun k=>H.w6 6 0 0 k l _ (by omega) (by omega) (by simpa using hA)⟩);exact(b2.comp b3 (gd_lay 14 g 0 (by decide) (by decide) (by decide)) (gd_con 1 1 _) (fun x=>qle_con _ _ _ _)).comp b4 ((gd_lay 14 g 0 (by decide) (by decide) (by decide)).comp (gd_con 1 1 _)) (gd_lay 6 0 0 (by decide) (by decide) (by decide)) (fun x=>qle_lay _ _ _ _))
  rw[hl1] at g1;exact a2.comp g1 ((ga _ _).comp (gd_con 0 1 _)) (gd_gath lv gt gf ar _) (qgr_gath lv qt qf ar _)
 by_cases n4:n=4
 ·subst n4;have gf:∀ g:Nat,Gd (fun x:Em=>x.lay 6 0 0):=fun g=>gd_lay 6 0 0 (by decide) (by decide) (by decide);have qf:∀ g:Nat,Qgr (fun x:Em=>x.lay 6 0 0):=fun g x=>qle_lay _ _ _ _;have g1:=SgQ.gathF H lv ht (by decide) gt qt ex (l++[1]) (fun g x=>x.lay 6 0 0) gf qf (fun g=>by
   have e1:(l++[1]++[((if (4:Int)<=3 then 2 else 1:Int)).toNat],ar+1)=(l++[1,1],ar+1):=by simp
   rw[e1];exact SgQ.lay 6 0 0 (fun hA=>⟨by simp at hA ⊢;omega,fun k=>H.w6 6 0 0 k l _ (by omega) (by omega) (by simpa using hA)⟩))
  rw[hl1] at g1;exact a2.comp g1 ((ga _ _).comp (gd_con 0 1 _)) (gd_gath lv gt gf ar _) (qgr_gath lv qt qf ar _)
 ·have hn5:n=5\/n=6:=by omega
  have hl2:(l++[1]++[2]).length=l.length+2:=by simp
  have c2:=SgQ.con H (ex:=ex) 0 2 (l++[1]) (ar+1);rw[hl1] at c2;have a3:=a2.comp c2 ((ga _ _).comp (gd_con 0 1 _)) (gd_con 0 2 _) (fun x=>qle_con _ _ _ _);have gf:∀ g:Nat,Gd (fun x:Em=>x.lay 26 (n-5).toNat 0):=fun g=>gd_lay 26 _ 0 (by decide) (by decide) (by decide);have qf:∀ g:Nat,Qgr (fun x:Em=>x.lay 26 (n-5).toNat 0):=fun g x=>qle_lay _ _ _ _;have g1:=SgQ.gathF H lv ht (by split<;>decide) gt qt ex (l++[1]++[2]) (fun g x=>x.lay 26 (n-5).toNat 0) gf qf (fun g=>by
   have e1:(l++[1]++[2]++[((if n<=3 then 2 else 1:Int)).toNat],ar+1)=(l++[1,2,1],ar+1):=by rw[if_neg (by omega)];simp
   have e2:(l++[1]++[2],ar+1)=(l++[1,2],ar+1):=by simp
   rw[e1,e2];exact SgQ.lay 26 _ 0 (fun hA=>⟨by simp at hA ⊢;omega,fun k=>H.w26 _ 0 k l _ (by simpa using hA)⟩))
  rw[hl2] at g1;have g2:=a3.comp g1 (((ga _ _).comp (gd_con 0 1 _)).comp (gd_con 0 2 _)) (gd_gath lv gt gf ar _) (qgr_gath lv qt qf ar _);have g3:SgQ sc ex (fun x=>x.lay 27 0 0) (l++[1]++[2],ar) (l++[1],ar):=SgQ.lay 27 0 0 (fun hA=>⟨by simp at hA ⊢;omega,fun k=>H.w27 0 0 k (l++[1]) _ (by simpa using hA)⟩);have g4:=g2.comp g3 ((((ga _ _).comp (gd_con 0 1 _)).comp (gd_con 0 2 _)).comp (gd_gath lv gt gf ar _)) (gd_lay 27 0 0 (by decide) (by decide) (by decide)) (fun x=>qle_lay _ _ _ _);rcases hn5 with rfl|rfl<;>exact g4
end Go.Proofs.YtejnhibajmncaaaDoor
