import Derived.Test.YtbjdkekhnajafaaGreatDoorDocH
set_option maxRecDepth 100000
set_option maxHeartbeats 8000000
namespace Go.Proofs.YtbjdkekhnajafaaGreatDoor
open Go.ChangeShapes Go.WideShapes Go.ChangeAt Go.RowKit
set_option linter.unusedVariables false
set_option linter.unusedSimpArgs false
theorem rH (o a b:Int)(w:World)(h1:0<=o)(h2:o<=255)(h3:0<=a)(h4:a<=268435455)(h5:0<=b)(h6:b<=268435455) :
  Calls Tryz.prog 42 #[.int .i64 o,.int .i64 a,.int .i64 b] w fun e w' =>
   e=.returned (.tuple #[.int .u64 ((o*268435456+a)*268435456+b),.int .i64 0])/\w'=w:=by
 go_enter Tryz.func42,Tryz.ntmps42;go_wp2;go_ret2;exact⟨rfl,rfl⟩
theorem vV (o a b:Int)(w:World)(h:¬(0<=o/\o<=255/\0<=a/\a<=268435455/\0<=b/\b<=268435455)) :
  Calls Tryz.prog 42 #[.int .i64 o,.int .i64 a,.int .i64 b] w fun e w'=>e=.returned (.tuple #[.int .u64 0,.int .i64 12])/\w'=w:=by
 have H:Hid (¬(0<=o/\o<=255/\0<=a/\a<=268435455/\0<=b/\b<=268435455)):=h;clear h;go_enter Tryz.func42,Tryz.ntmps42;go_wp2
 all_goals first|(exfalso;have:=H.out;omega)|(go_ret2;exact⟨rfl,rfl⟩)
def wdI (x:Wo):Int:=if x.op<=255/\x.a<=268435455/\x.b<=268435455 then eP x else 0
def wdW (l:List Wo):List Value:=l.map fun x=>.int .u64 (wdI x)
theorem CF {l:List Wo}(h:∀ x ∈ l,x.ok):wdW l=woV l:=List.map_congr_left fun x hx=>by show Value.int .u64 (wdI x)=_;unfold wdI;rw[if_pos (show x.op<=255/\x.a<=268435455/\x.b<=268435455 from h x hx)]
def wdE (x:Wo):Int:=if x.op<=255/\x.a<=268435455/\x.b<=268435455 then 0 else 12
theorem uA (x:Wo)(w:World):Calls Tryz.prog 42 #[.int .i64 (x.op:Nat),.int .i64 (x.a:Nat),.int .i64 (x.b:Nat)] w fun e w'=>e=.returned (.tuple #[.int .u64 (wdI x),.int .i64 (wdE x)])/\w'=w:=by
 unfold wdI wdE;by_cases h:x.op<=255/\x.a<=268435455/\x.b<=268435455
 ·rw[if_pos h,if_pos h];exact rH (x.op:Int) (x.a:Int) (x.b:Int) w (by omega) (by omega) (by omega) (by omega) (by omega) (by omega)
 ·rw[if_neg h,if_neg h];exact vV (x.op:Int) (x.a:Int) (x.b:Int) w (by omega)
structure EmD (w:World)(o:Nat->Nat)(s:Em)(vw vc vn vk:Value):Prop where
 ws:Row w o 2 54 1 vw s.ws.length (wdW s.ws)
 cs:Row w o 3 3 1 vc s.cs.length (eiV s.cs)
 ns:Row w o 4 9 1 vn s.ns.length (esV s.ns)
 ks:Row w o 5 3 1 vk s.ks.length (eiV s.ks)
def zG (w:World)(e:Ex)(cells:List Int)(z:Ending)(w':World):Prop :=
 Below w.heap.size w w'/\((bO cells e=0/\z=.returned (.tuple #[.agg eI,.int .i64 140])) \/
  (bO cells e≠0/\(32768<(emA cells e).ws.length\/1024<(emA cells e).dp)/\z=.returned (.tuple #[.agg eI,.int .i64 190])) \/
  (bO cells e≠0/\(emA cells e).ws.length<=32768/\(emA cells e).dp<=1024/\∃vw vc vn vk o',z=.returned (.tuple #[.agg #[vw,vc,vn,vk],.int .i64 0])/\(∀ k,k<w.heap.size->o' k=0)/\EmD w' o' (emA cells e) vw vc vn vk))
theorem newD {w2:World}{gk:Nat}(n:Nat)(hn:n<=1000)(p0 p1 p2 p3 p4:Value)(w3:World)(lv:List Int)(hlv:lv.length=n)
  (hw3:w3=(w2.alloc (.cells (madeCells (Value.int .i64 0).cells (n*1)) 3)).alloc (.cells #[p0,p1,p2,p3,p4,.slice none 0 0,.slice none 0 0,.slice (some ⟨gk,0,none⟩) n n,.slice none 0 0,.int .i64 0,.int .i64 0,.bool false] 80)) (hgk:gk=w2.heap.size) :
  ∃o3,DW w3 o3 (gk+1) p0 p1 p2 p3 p4 (de0 lv)/\Below w2.heap.size w2 w3/\∀ k,k<w2.heap.size->o3 k=0:=by
 obtain⟨z1,z2,z3,z4⟩:=al2 w2 (.cells (madeCells (Value.int .i64 0).cells (n*1)) 3) (.cells #[p0,p1,p2,p3,p4,.slice none 0 0,.slice none 0 0,.slice (some ⟨gk,0,none⟩) n n,.slice none 0 0,.int .i64 0,.int .i64 0,.bool false] 80);rw[<-hw3,<-hgk] at z1 z2 z3 z4;obtain⟨o',ho'⟩:∃o':Nat->Nat,o'=fun k=>if k=gk+1 then 1 else if k=gk then 5 else 0:=⟨_,rfl⟩
 have l1:o' (gk+1)=1:=by rw[ho'];simp
 have l5:o' gk=5:=by rw[ho'];show (if gk=gk+1 then 1 else if gk=gk then 5 else 0)=5;rw[if_neg (by omega),if_pos rfl]
 refine⟨o',⟨by simp[de0],_,_,_,_,⟨z2,l1⟩,Row.nil _ _ _ _ _,Row.nil _ _ _ _ _,Row.nil _ _ _ _ _,?_⟩,by rw[<-hgk];exact z4,fun k hk=>?_⟩
 ·have e1:(de0 lv).ks.length=n:=by simp[de0,hlv]
  have e2:eiV (de0 lv).ks=List.replicate n (Value.int .i64 0):=by simp[eiV,de0,hlv]
  have e3:madeCells (Value.int .i64 0).cells (n*1)=(List.replicate n (Value.int .i64 0)).toArray:=by
   apply Array.ext';simp only[madeCells,Value.cells];rw[List.eq_replicate_iff];refine⟨by simp,fun b hb=>?_⟩;simp[Nat.mod_one] at hb;exact hb.2.symm
  rw[e3] at z1;rw[e1,e2];refine⟨⟨by simp,.inr ⟨gk,n,_,rfl,Nat.zero_le _,z1,Nat.le_refl _,by unfold maxLen;omega,by simp,by simp⟩⟩,fun k hk=>?_⟩;simp[Value.ownBlock] at hk;rw[<-hk];exact l5
 ·rw[ho'];show (if k=gk+1 then 1 else if k=gk then 5 else 0)=0;rw[if_neg (by omega),if_neg (by omega)]
theorem Row.labq {w:World}{o o':Nat->Nat}{i j:Nat}{e:TypeId}{size:Nat}{v:Value}{n:Nat}{xs:List Value}(h:Row w o i e size v n xs)(ho:∀ k,o k=i->o' k=j):Row w o' j e size v n xs:=⟨h.1,fun k hk=>ho k (h.2 k hk)⟩
abbrev I68:Nat->Prop:=fun k=>6<=k/\k<=8
def kL (l:List Int):List Int:=l.map fun y=>max y 1
theorem Bo (e:Ex)(ao:Option Addr)(cap:Nat)(cv:Value)(cells:List Int)(w:World)(hf:cu e)(hn:-9223372036854775808<=e.n/\e.n<=9223372036854775807)(hr:e.kids.rng)(hc:InA w cv cells)(hcl:cells.length<=1000000000)(S:SnA w e.kids ao) :
  Calls Tryz.prog 16 #[plV e ao cap cv] w (zG w e cells):=by
 obtain⟨g,hg⟩:∃g,g=w.heap.size:=⟨_,rfl⟩
 obtain⟨w1,hw1⟩:∃w1,w1=(w.alloc (.cells #[.int .i64 e.k,.int .i64 e.n,stv e.nm,.slice ao e.kids.len cap,cv] 37)).alloc (.cells eI 42):=⟨_,rfl⟩
 obtain⟨z1,z2,z3,z4⟩:=al2 w (.cells #[.int .i64 e.k,.int .i64 e.n,stv e.nm,.slice ao e.kids.len cap,cv] 37) (.cells eI 42);rw[<-hw1,<-hg] at z1 z2 z3 z4;have B1:Below w.heap.size w w1:=by rw[<-hg];exact z4
 have HC:=uh e ao cap cv cells w1 hf (hc.below B1) hcl (SnA.below S B1);have hcv:=hc;obtain⟨ac,cc,rfl,-⟩:=hcv;rw[bZ] at HC ⊢;have HG:=Lib.hid hg;clear hg;obtain⟨c0,c1,c2,c3,c4⟩:=dj z1;by_cases hk:bO cells e=0
 ·rw[decide_eq_false (by simp[hk])] at HC;have HK:=Lib.hid hk;clear hk;go_enter Tryz.func16,Tryz.ntmps16;go_upto_region 1 with fail;rw[<-hw1,<-HG.out];clear hw1;go_upto_region 2 with (first|(go_at_call 39;refine HC.mono ?_;rintro z w2 ⟨rfl,B2⟩))
  have GZ:=(B2.block (g+1) (by omega)).trans z2;obtain⟨⟨d0,d1,d2,d3⟩,df⟩:=as GZ;have df0:=df 0;have df1:=df 1;have df2:=df 2;have df3:=df 3;have BZ:Below g w w2:=z4.trans (B2.mono (by omega));have ZE:=lY (.slice none 0 0) (.slice none 0 0) (.slice none 0 0) (.slice none 0 0) GZ;have hle:g<=g+1:=by omega
  have BE:=(((BZ.setCell (p:=⟨g+1,0,none⟩) hle (.slice none 0 0)).setCell (p:=⟨g+1,1,none⟩) hle (.slice none 0 0)).setCell (p:=⟨g+1,2,none⟩) hle (.slice none 0 0)).setCell (p:=⟨g+1,3,none⟩) hle (.slice none 0 0);obtain⟨⟨m0,m1,m2,m3⟩,-⟩:=as ZE;have HBE:=Lib.hid BE;clear ZE BE GZ BZ HC z1 z2 z3 z4 B1 B2 c0 c1 c2 c3 c4;go_wp2;exact bodyPost_ret (v:=.tuple #[.agg eI,.int .i64 140]) (by simp[results,Tryz.results16,go_sem,m0,m1,m2,m3]) rfl ⟨by rw[<-HG.out];exact HBE.out,.inl ⟨HK.out,rfl⟩⟩
 ·rw[decide_eq_true hk] at HC;obtain⟨hok,hsz,hnc,hcb⟩:=pL hk hn hr;obtain⟨K,hK1,hsk⟩:=EA hk hok;have HK:=Lib.hid hk;clear hk;obtain⟨ii,hii,hzi0,hzi1,hzi2⟩:=aH lq;have mk:∀ w:World,(Instr.makeSlice 35 (.int .i64 (cells.length:Nat)) (.int .i64 (cells.length:Nat))).run Tryz.prog w=.ok (.slice (some ⟨w.heap.size,0,none⟩) cells.length cells.length) (w.alloc (.cells (madeCells (Value.int .i64 0).cells (cells.length*1)) 3)):=fun w=>by
   have:=run_make (P:=Tryz.prog) w 35 3 ii _ Tryz.underlying35 hii hzi0 .i64 .i64 cells.length cells.length (by omega) (Int.le_refl _) (by rw[hzi2];omega) (by omega)
   rw[hzi1] at this;simpa only[Int.toNat_natCast] using this
  clear hii hzi0 hzi1 hzi2;go_enter Tryz.func16,Tryz.ntmps16;go_upto_region 1 with fail;rw[<-hw1,<-HG.out];clear hw1;go_upto_region 4 with (first|(go_at_call 39;refine HC.mono ?_;rintro z w2 ⟨rfl,B2⟩))
  have B12:Below w.heap.size w w2:=B1.trans (B2.mono B1.size);have y1:=(B2.block g (by omega)).trans z1;have y2:=(B2.block (g+1) (by omega)).trans z2;have L2:g+2<=w2.heap.size:=by rw[<-z3];exact B2.size
  clear c0 c1 c2 c3 c4 HC;obtain⟨c0,c1,c2,c3,c4⟩:=dj y1;have mk2:=mk w2;have mk3:=mk w2.drew;have y1d:=fun X:Obj=>(heap_alloc_old w2 X (by omega)).trans y1;have hX:=newD (w2:=w2) (gk:=w2.heap.size) cells.length (by omega) (.int .i64 e.k) (.int .i64 e.n) (stv e.nm) (.slice ao e.kids.len cap) (.slice ac cells.length cc) _ cells rfl rfl rfl;generalize madeCells (Value.int .i64 0).cells (cells.length*1)=X at *;obtain⟨d0,d1,d2,d3,d4⟩:=dj (y1d (.cells X 3));obtain⟨gk,hgk⟩:∃gk,gk=w2.heap.size:=⟨_,rfl⟩
  rw[<-hgk] at hX;obtain⟨wx,hwx⟩:∃wx,wx=(w2.alloc (.cells X 3)).alloc (.cells #[.int .i64 e.k,.int .i64 e.n,stv e.nm,.slice ao e.kids.len cap,.slice ac cells.length cc,.slice none 0 0,.slice none 0 0,.slice (some ⟨gk,0,none⟩) cells.length cells.length,.slice none 0 0,.int .i64 0,.int .i64 0,.bool false] 80):=⟨_,rfl⟩
  rw[<-hwx] at hX;have HX:=Lib.hid hX;have HGK:=Lib.hid hgk;have HWX:=Lib.hid hwx;clear y1d hX hgk hwx mk;go_region;go_upto_region 5 with fail;rw[<-HGK.out,<-HWX.out];obtain⟨o3,E3x,B3x,ho3⟩:=HX.out;have E3:=E3x.step ((aa.refl (fun _=>False) wx o3).drew) noF;have B3:Below gk w2 wx.drew:=B3x.drew;generalize wx.drew=w3 at *;obtain⟨rb,hrb⟩:∃rb,rb=gk+1:=⟨_,rfl⟩
  rw[<-hrb] at E3 ⊢;clear hrb HX HWX E3x B3x d0 d1 d2 d3 d4 mk2 mk3 c0 c1 c2 c3 c4;rw[<-HGK.out] at L2;have hlw:w2.heap.size=gk:=HGK.out.symm;have X3:DX w3 o3 (.slice ac cells.length cc) cells:=by
   obtain⟨ao,cap,hv,hx⟩:=hc.below B12;injection hv with h1 h2 h3
   subst h1 h3;refine⟨_,_,rfl,?_⟩;rcases hx with hx|⟨b,off,h1,h2,h3,h4⟩
   ·exact .inl hx
   ·rw[hlw] at h3;exact .inr ⟨b,off,h1,ho3 b h3,Nat.lt_of_lt_of_le h3 (by rw[<-hlw];exact B3.size),fun j x hj=>(B3.cell (p:=⟨b,off+j,none⟩) h3).trans (h4 j x hj)⟩
  have SN3:SnO w3 o3 e.kids ao:=(SnA.below S B12).mono (fun k _ hl=>B3.block k (by omega)) B3.size (fun k _ hl=>ho3 k (by omega));have b3p:Blk w3 o3 0 g (.cells #[.int .i64 e.k,.int .i64 e.n,stv e.nm,.slice ao e.kids.len cap,.slice ac cells.length cc] 37):=⟨(B3.block g (by omega)).trans y1,ho3 g (by omega)⟩
  have b3r:Blk w3 o3 0 (g+1) (.cells eI 42):=⟨(B3.block (g+1) (by omega)).trans y2,ho3 (g+1) (by omega)⟩
  have z0:(de0 cells).sz 0:=⟨by simp[de0],by simp[de0],by simp[de0],by simp[de0],by simp[de0],by simp[de0]⟩
  have HP:=nA K cells.length (e.kids.size+1) e ao cap 0 w3 o3 rb _ _ _ _ _ cells (de0 cells) 0 (by omega) hok hsk rfl hnc (by omega) (by omega) SN3 (by simp[de0]) z0 (by omega) X3 E3;rw[ah] at HP;have dA:=bQ cells e 0 (de0 cells);have zA:=(aq _ 0 0 0).sz _ (dA.sz 0 z0);have BW:Below g w w3:=(by rw[<-HG.out] at B12;exact B12.trans (B3.mono (by omega)))
  have hR:=ry_A K cells cells.length e hsk hok;have hkD:(deA cells e).ks.length=cells.length:=((aq _ 0 0 0).ks.trans dA.ks).trans (by simp[de0]);obtain⟨c0,c1,c2,c3,c4⟩:=dj b3p.1;rw[show ((0:Nat):Int)=0 from rfl] at HP;go_upto_region 6 with (first|(go_at_call 40;refine HP.mono ?_;rintro z w4 ⟨rfl,o4,E4,S4⟩))
  have HL:=aS w4 o4 rb _ _ _ _ _ (deE cells e 0 (de0 cells)) 0 0 0 E4;go_upto_region 7 with (first|(go_at_call 41;refine HL.mono ?_;rintro z w5 ⟨rfl,o5,E5,S5⟩))
  have heq:(deE cells e 0 (de0 cells)).puts 0 0 0=deA cells e:=rfl;rw[heq] at E5 zA;have S35:=S4.trans S5;have b5r:=b3r.step S35 aA;have ho5:∀ k,k<w.heap.size->o5 k=0:=fun k hk2=>by
   have hg:=HG.out;rw[S35.lab k (by have:=B3.size;omega)];exact ho3 k (by omega)
  have B5:Below g w w5:=BW.trans ⟨S35.os,S35.tape,S35.output,S35.size,fun k hk2=>S35.block k (by have:=B3.size;omega) (by rw[ho3 k (by omega)];exact aA)⟩;clear HP HL E4 S4 S5 S35 b3p b3r X3 SN3 E3 BW hsk hok dA z0 c0 c1 c2 c3 c4 B3 ho3 B12 y1 y2 B1 B2 z1 z2 z4 S hc hf hr;obtain⟨⟨d0,d1,d2,d3⟩,df⟩:=as b5r.1;have df0:=df 0;have df1:=df 1;have df2:=df 2;have df3:=df 3;have hle:g<=g+1:=by omega
  obtain⟨l11,-⟩:=E5.cl;by_cases hq:okQ (emA cells e)
  ·have r:=hR.1 hq;rw[r.lg] at l11;obtain⟨wl,vc,vn,vk,vw,q0,q1,q2,q3,q4⟩:=E5;obtain⟨aw,cw,rfl⟩:=q1.form;obtain⟨ac2,cc2,rfl⟩:=q2.form;obtain⟨an,cn,rfl⟩:=q3.form;obtain⟨ak,ck,rfl⟩:=q4.form;obtain⟨⟨t4,t5,t6,t7,t8,t9,t10,t11⟩,-⟩:=bV q0.1;have qa:=fun X:Obj=>(heap_alloc_old w5 X q0.lt).trans q0.1;obtain⟨⟨-,u5,u6,-,-,-,-,-⟩,-⟩:=bV (qa (.cells eI 42));obtain⟨⟨-,v5,v6,-,-,-,-,-⟩,-⟩:=bV (show w5.drew.heap[rb]?=_ from q0.1);clear qa;obtain⟨gc,hgc⟩:∃gc,gc=w5.heap.size:=⟨_,rfl⟩
   have B6:Below g w (w5.alloc (.cells #[.slice none 0 0,.slice ac2 (deA cells e).cs.length cc2,.slice an (deA cells e).ns.length cn,.slice none 0 0] 42)).drew:=(B5.alloc (by have:=B5.size;have:=HG.out;omega) _).drew;have S6:∀ {I:Nat->Prop},aa I w5 o5 (w5.alloc (.cells #[.slice none 0 0,.slice ac2 (deA cells e).cs.length cc2,.slice an (deA cells e).ns.length cn,.slice none 0 0] 42)).drew (ae w5 o5 6):=fun {I}=>(((aa.refl I w5 o5).labelled 6).alloc _).drew;have G6:Blk (w5.alloc (.cells #[.slice none 0 0,.slice ac2 (deA cells e).cs.length cc2,.slice an (deA cells e).ns.length cn,.slice none 0 0] 42)).drew (ae w5 o5 6) 6 gc (.cells #[.slice none 0 0,.slice ac2 (deA cells e).cs.length cc2,.slice an (deA cells e).ns.length cn,.slice none 0 0] 42):=by rw[hgc];exact⟨heap_alloc_new _ _,ax (Nat.le_refl _)⟩
   have HGC:=Lib.hid hgc;clear hgc;go_upto_region 9 with fail;go_region;go_upto_region 10 with fail;rw[<-HGC.out];generalize (w5.alloc (.cells #[.slice none 0 0,.slice ac2 (deA cells e).cs.length cc2,.slice an (deA cells e).ns.length cn,.slice none 0 0] 42)).drew=w6 at *;have Q0:=q0.step (S6 (I:=fun _=>False)) id;have Q1:=q1.step (S6 (I:=fun _=>False)) id;have Q2:=q2.step (S6 (I:=fun _=>False)) id;have Q3:=q3.step (S6 (I:=fun _=>False)) id;have Q4:=q4.step (S6 (I:=fun _=>False)) id;have b6r:=b5r.step (S6 (I:=fun _=>False)) id;have ho6:∀ k,k<w.heap.size->ae w5 o5 6 k=0:=fun k hk2=>by
    rw[aC (by have:=B5.size;omega)];exact ho5 k hk2
   generalize ae w5 o5 6=o6 at *;generalize deA cells e=D at *;have hkl256:D.ks.length<=256:=by omega
   clear hkD heq q0 q1 q2 q3 q4 b5r B5 S6 ho5 hR zA t4 t5 t6 t7 t8 t9 t10 t11 u5 u6 v5 v6 d0 d1 d2 d3 df0 df1 df2 df3 df l11;have KW:Hid (∀ w' o',aa I68 w6 o6 w' o'->w'.cell? ⟨rb,7,none⟩=some (.slice ak D.ks.length ck)/\w'.cell? ⟨rb,8,none⟩=some (.slice aw D.ws.length cw)):=fun w' o' S=>by
    obtain⟨⟨t4,t5,t6,t7,t8,t9,t10,t11⟩,-⟩:=bV (Q0.step S (by decide)).1;exact⟨t7,t8⟩
   obtain⟨j1,j2,j3,j4,j5⟩:=aH oi;obtain⟨t7,t8⟩:=KW.out _ _ (aa.refl I68 w6 o6);go_wp2_with fail;go_loopw [7] (fun v wr=>∃(i:Nat) (o':Nat->Nat) (va:Option Addr) (cz:Nat),v=.int .i64 (i:Nat)/\i<=D.ks.length/\Blk wr o' 6 gc (.cells #[.slice none 0 0,.slice ac2 D.cs.length cc2,.slice an D.ns.length cn,.slice va i cz] 42)/\Row wr o' 7 3 1 (.slice va i cz) i (eiV (kL (D.ks.take i)))/\aa I68 w6 o6 wr o') (fun v _=>D.ks.length-(intOf v).toNat)
   case atStart=>exact⟨0,o6,none,0,by go_num,by omega,G6,Row.nil _ _ _ _ _,aa.refl _ _ _⟩
   case round =>
    clear G6 t7 t8;obtain⟨i,o',va,cz,rfl,hi,G,R,S⟩:=hrel;obtain⟨t7,t8⟩:=KW.out _ _ S;obtain⟨⟨g0,g1,g2,g3⟩,gf⟩:=as G.1;by_cases hlt:i<D.ks.length
    ·have hkI:(i:Int)<(D.ks.length:Int):=by omega
     obtain⟨gk2,capk,hsl,ogk,-,-,hgl,hck,hfk⟩:=(Q4.step S (by decide)).pos (by omega);injection hsl with hs1 hs2 hs3
     subst hs1 hs3;have rz:wr.cell? ⟨gk2,i,none⟩=some (.int .i64 (D.ks.getD i 0)):=by
      rw[hck i (by omega)];simp[eiV,hlt,List.getD_eq_getElem?_getD]
     obtain⟨M,hM⟩:∃M,M=max (D.ks.getD i 0) 1:=⟨_,rfl⟩
     have hY:Hid (eiV (kL (D.ks.take (i+1)))=eiV (kL (D.ks.take i))++[.int .i64 M]):=by
      have e1:kL (D.ks.take (i+1))=kL (D.ks.take i)++[M]:=by
       unfold kL;rw[List.take_succ_eq_append_getElem hlt,List.map_append,hM];simp[hlt,List.getD_eq_getElem?_getD]
      show _=_;rw[e1,eiV,List.map_append];rfl
     have bA:i+1<=maxLen:=by unfold maxLen;omega
     have bB:(i+1)*8<=140737488355328:=by omega
     have sn1:∀ {I:Nat->Prop} (wz:World),aa I wz o' wz.drew o':=fun wz=>(aa.refl _ wz o').drew;have sa1:∀ {I:Nat->Prop},aa I wr o' (wr.alloc (.cells #[.int .i64 M] 3)) o':=fun {I}=>aa.ofBelow (I:=I) o' (b1 _ _);have Ra:=(R.step (sa1 (I:=fun _=>False)) id).step (sn1 (I:=fun _=>False) _) id;have Ga:=(G.step (sa1 (I:=fun _=>False)) id).step (sn1 (I:=fun _=>False) _) id;obtain⟨⟨a0,a1,a2,a3⟩,af⟩:=as (G.step (sa1 (I:=fun _=>False)) id).1;subst hM;generalize D.ks.getD i 0=y at *;clear hck hfk;go_wp2_with fail;go_region_law ((refine cX rfl (.tmp 53) (.tmp 62) 35 rfl 3 j1 (.int .i64 0) 1 8 Tryz.underlying35 j2 j3 j4 j5 rfl (by decide) o' 7 (.slice va i cz) i (eiV (kL (D.ks.take i))) (by simp[Act.eval,Act.put]) Ra ⟨wr.heap.size,0,none⟩ 1 1 [.int .i64 (max y 1)] (by simp[Act.eval,Act.put]) rfl (cL wr _ _) (ge _ rfl) (by decide) bA bB ?_;intro g5 c5 w7 o7 R7 S7;have G7:=Ga.step S7 (by decide);obtain⟨⟨h0,h1,h2,h3⟩,hf⟩:=as G7.1;have hf3:=hf 3))
     all_goals
      have T8:aa (fun k=>k=6) w7 o7 (w7.setCell ⟨gc,3,none⟩ (.slice (some ⟨g5,0,none⟩) (i+1) c5)) o7:=bT _ w7 o7 ⟨gc,3,none⟩ _ G7.2;have G8:=G7.set 3 (.slice (some ⟨g5,0,none⟩) (i+1) c5);have R8:=R7.step T8 (by decide);have S8:aa I68 w6 o6 (w7.setCell ⟨gc,3,none⟩ (.slice (some ⟨g5,0,none⟩) (i+1) c5)) o7:=(((S.trans sa1).trans (sn1 _)).trans (S7.mono (fun k hk=>by rw[hk];decide))).trans (T8.mono (fun k hk=>by rw[hk];decide));rw[<-hY.out] at R8;clear G7 R7 T8 S7 G R S Ra Ga sn1 sa1 hY a0 a1 a2 a3 h0 h1 h2 h3 hf hf3 g0 g1 g2 g3 gf t7 t8 rz af;generalize w7.setCell ⟨gc,3,none⟩ (.slice (some ⟨g5,0,none⟩) (i+1) c5)=w8 at *;go_wp2;go_roundw
      case rel=>(try ((repeat apply Exists.intro);refine⟨?_,rfl⟩));exact⟨i+1,o7,some ⟨g5,0,none⟩,c5,by go_num,by omega,G8,R8,S8⟩
      case measure=>simp[intOf];omega
    ·have hkI:¬(i:Int)<(D.ks.length:Int):=by omega
     obtain rfl:i=D.ks.length:=by omega
     rw[List.take_length] at R;clear hlt;have hwv:∃wv,wv=wr:=⟨_,rfl⟩
     obtain⟨wv,rfl⟩:=hwv;go_wp2_with fail;go_loopw [8] (fun v wq=>∃(j:Nat) (o2:Nat->Nat) (vb:Option Addr) (cb:Nat),v=.int .i64 (j:Nat)/\j<=D.ws.length/\Blk wq o2 6 gc (.cells #[.slice vb j cb,.slice ac2 D.cs.length cc2,.slice an D.ns.length cn,.slice va D.ks.length cz] 42)/\Row wq o2 8 54 1 (.slice vb j cb) j (wdW (D.ws.take j))/\aa (fun k=>k=6\/k=8) wv o' wq o2) (fun v _=>D.ws.length-(intOf v).toNat)
     case atStart=>exact⟨0,o',none,0,by go_num,by omega,G,Row.nil _ _ _ _ _,aa.refl _ _ _⟩
     case round =>
      clear G g0 g1 g2 g3 gf t7 t8;obtain⟨j,o2,vb,cb,rfl,hj,G2,R2,S2⟩:=hrel;have S62:aa I68 w6 o6 wr o2:=S.trans (S2.mono (fun k hk=>by rcases hk with hk|hk<;>(rw[hk];decide)));obtain⟨t7,t8⟩:=KW.out _ _ S62;obtain⟨⟨g0,g1,g2,g3⟩,gf⟩:=as G2.1;by_cases hjt:j<D.ws.length
      ·have hkJ:(j:Int)<(D.ws.length:Int):=by omega
       obtain⟨gl,capl,hsl,ogl,-,-,hgl,hcl2,hfl⟩:=(Q1.step S62 (by decide)).pos (by omega);injection hsl with hs1 hs2 hs3
       subst hs1 hs3;have hat:∀ i,i<3->wr.cell? ⟨gl,j*3+i,none⟩=(fX D.ws[j])[i]?:=fun i hi=>by
        rw[hcl2 (j*3+i) (by omega),nT D.ws j i D.ws[j] (List.getElem?_eq_getElem hjt) hi]
       have hW:Hid (wdW (D.ws.take (j+1))=wdW (D.ws.take j)++[.int .u64 (wdI D.ws[j])]):=by
        show _=_;rw[List.take_succ_eq_append_getElem hjt,wdW,List.map_append];rfl
       generalize D.ws[j]=x at *;have x0:wr.cell? ⟨gl,j*3,none⟩=some (.int .i64 (x.op:Nat)):=hat 0 (by omega);have x1:wr.cell? ⟨gl,j*3+1,none⟩=some (.int .i64 (x.a:Nat)):=hat 1 (by omega);have x2:wr.cell? ⟨gl,j*3+2,none⟩=some (.int .i64 (x.b:Nat)):=hat 2 (by omega);have HWd:=fun wy=>uA x wy;have KQ:∀ q,aa (fun _=>False) wr o2 (wr.drewN q) o2:=fun q=>(aa.refl _ wr o2).drewN q;clear hat hcl2 hfl;go_wp2_with fail
       go_quiet ((go_at_call 42;exact Calls.quiet_of_same (HWd _)))
       have KQ:=KQ nq;have G3:=G2.step KQ id;have R3:=R2.step KQ id;have S3:aa I68 w6 o6 (wr.drewN nq) o2:=S62.trans (KQ.mono (fun k hk=>hk.elim));have S23:aa (fun k=>k=6\/k=8) wv o' (wr.drewN nq) o2:=S2.trans (KQ.mono (fun k hk=>hk.elim));generalize wr.drewN nq=w9 at *;clear g0 g1 g2 g3 gf t7 t8 x0 x1 x2 G2 R2 S2 HWd KQ;obtain⟨⟨g0,g1,g2,g3⟩,gf⟩:=as G3.1;obtain⟨u1,u2,u3,u4,u5⟩:=aH sF;have bA:j+1<=maxLen:=by unfold maxLen;omega
       have bB:(j+1)*8<=140737488355328:=by omega
       obtain⟨ev,hev⟩:∃ev,ev=wdI x:=⟨_,rfl⟩
       rw[<-hev] at hW ⊢;generalize wdE x=er at *;have pr:=R3.step (aa.ofBelow (I:=fun _=>False) o2 (b1 w9 (.cells #[.int .u64 ev] 54))) id;clear hev;go_wp2_with (first|(at_builtin;refine aB rfl _ _ 39 rfl 54 u1 (.int .u64 0) 1 8 Tryz.underlying39 u2 u3 u4 u5 rfl (by decide) o2 8 (.slice vb j cb) j (wdW (D.ws.take j)) rfl pr ⟨w9.heap.size,0,none⟩ 1 1 [.int .u64 ev] rfl rfl (cL _ _ _) (ge _ rfl) (by decide) bA bB ?_)|go_in);intro g5 c5 w7 o7 R7 S7;have sa:∀ {I:Nat->Prop},aa I w9 o2 (w9.alloc (.cells #[.int .u64 ev] 54)) o2:=fun {I}=>aa.ofBelow (I:=I) o2 (b1 _ _);have G7:=(G3.step (sa (I:=fun _=>False)) id).step S7 (by decide);obtain⟨⟨h0,h1,h2,h3⟩,hf⟩:=as G7.1;have hf0:=hf 0;have T8:aa (fun k=>k=6) w7 o7 (w7.setCell ⟨gc,0,none⟩ (.slice (some ⟨g5,0,none⟩) (j+1) c5)) o7:=bT _ w7 o7 ⟨gc,0,none⟩ _ G7.2;have G8:=G7.set 0 (.slice (some ⟨g5,0,none⟩) (j+1) c5);have R8:=R7.step T8 (by decide);have S8:=((S23.trans sa).trans (S7.mono (J:=fun k=>k=6\/k=8) (fun k hk=>.inr hk))).trans (T8.mono (J:=fun k=>k=6\/k=8) (fun k hk=>.inl hk));rw[<-hW.out] at R8;clear G7 R7 T8 S7 G3 R3 S3 S23 pr sa g0 g1 g2 g3 gf hW;go_wp2;go_roundw
       case rel=>(try ((repeat apply Exists.intro);refine⟨?_,rfl⟩));exact⟨j+1,o7,some ⟨g5,0,none⟩,c5,by go_num,by omega,G8,R8,S8⟩
       case measure=>simp[intOf];omega
      ·have hkJ:¬(j:Int)<(D.ws.length:Int):=by omega
       obtain rfl:j=D.ws.length:=by omega
       rw[List.take_length] at R2;obtain⟨⟨d0,d1,d2,d3⟩,df⟩:=as (b6r.step S62 (by decide)).1;have df0:=df 0;have df1:=df 1;have df2:=df 2;have df3:=df 3;have BR:Below g w wr:=B6.trans ⟨S62.os,S62.tape,S62.output,S62.size,fun k hk2=>S62.block k (by have:=B6.size;have:=HG.out;omega) (by rw[ho6 k (by have:=HG.out;omega)];decide)⟩;have b9:=b6r.step S62 (by decide);have ZE:=lY (.slice vb D.ws.length cb) (.slice ac2 D.cs.length cc2) (.slice an D.ns.length cn) (.slice va D.ks.length cz) b9.1;have BE:=(((BR.setCell (p:=⟨g+1,0,none⟩) hle (.slice vb D.ws.length cb)).setCell (p:=⟨g+1,1,none⟩) hle (.slice ac2 D.cs.length cc2)).setCell (p:=⟨g+1,2,none⟩) hle (.slice an D.ns.length cn)).setCell (p:=⟨g+1,3,none⟩) hle (.slice va D.ks.length cz);have SE:aa (fun k=>k=0) wr o2 ((((wr.setCell ⟨g+1,0,none⟩ (.slice vb D.ws.length cb)).setCell ⟨g+1,1,none⟩ (.slice ac2 D.cs.length cc2)).setCell ⟨g+1,2,none⟩ (.slice an D.ns.length cn)).setCell ⟨g+1,3,none⟩ (.slice va D.ks.length cz)) o2:=((((aa.refl _ wr o2).setCell ⟨g+1,0,none⟩ _ b9.2).setCell ⟨g+1,1,none⟩ _ b9.2).setCell ⟨g+1,2,none⟩ _ b9.2).setCell ⟨g+1,3,none⟩ _ b9.2;obtain⟨⟨m0,m1,m2,m3⟩,-⟩:=as ZE;have hks:(emA cells e).ks=kL D.ks:=by
        apply List.ext_getElem?;intro i;have hkl:=r.kl;by_cases hi:i<D.ks.length
        ·have h1:=r.ks i (by omega);have hp:=hK1 i;unfold kL;rw[List.getElem?_map,List.getElem?_eq_getElem hi,List.getElem?_eq_getElem (by omega)];simp only[List.getD_eq_getElem?_getD,List.getElem?_eq_getElem hi,List.getElem?_eq_getElem (show i<(emA cells e).ks.length by omega),Option.getD_some,Option.map_some] at h1 ⊢
         congr 1
         omega
        ·unfold kL;rw[List.getElem?_eq_none (by omega),List.getElem?_eq_none (by simp;omega)]
       obtain⟨oz,hoz⟩:∃oz:Nat->Nat,oz=fun k=>if o2 k=8 then 2 else if o2 k=7 then 5 else if o2 k=2\/o2 k=5\/o2 k=6 then 9 else o2 k:=⟨_,rfl⟩
       have HCE:Hid (EmD ((((wr.setCell ⟨g+1,0,none⟩ (.slice vb D.ws.length cb)).setCell ⟨g+1,1,none⟩ (.slice ac2 D.cs.length cc2)).setCell ⟨g+1,2,none⟩ (.slice an D.ns.length cn)).setCell ⟨g+1,3,none⟩ (.slice va D.ks.length cz)) oz (emA cells e) (.slice vb D.ws.length cb) (.slice ac2 D.cs.length cc2) (.slice an D.ns.length cn) (.slice va D.ks.length cz)):=by
        refine⟨?_,?_,?_,?_⟩
        ·rw[<-r.ws];exact(R2.step SE (by decide)).labq (fun k hk=>by rw[hoz];simp only;rw[if_pos hk])
        ·rw[<-r.cs];exact((Q2.step S62 (by decide)).step SE (by decide)).labq (fun k hk=>by rw[hoz];simp only;rw[if_neg (by omega),if_neg (by omega),if_neg (by omega)];exact hk)
        ·rw[<-r.ns];exact((Q3.step S62 (by decide)).step SE (by decide)).labq (fun k hk=>by rw[hoz];simp only;rw[if_neg (by omega),if_neg (by omega),if_neg (by omega)];exact hk)
        ·rw[hks,show (kL D.ks).length=D.ks.length by simp[kL]];exact((R.step S2 (by decide)).step SE (by decide)).labq (fun k hk=>by rw[hoz];simp only;rw[if_neg (by omega),if_pos hk])
       have HO5:Hid (∀ k,k<w.heap.size->oz k=0):=fun k hk=>by
        have hz:o2 k=0:=by rw[S62.lab k (by have:=B6.size;have:=HG.out;omega)];exact ho6 k hk
        rw[hoz];simp only;rw[if_neg (by omega),if_neg (by omega),if_neg (by omega)];exact hz
       have HBE:=Lib.hid BE;have HQ:=Lib.hid hq;clear ZE BE SE BR b9 b6r Q0 Q1 Q2 Q3 Q4 R R2 S S2 S62 G2 KW hks hoz hq r hK1 ho6 B6 t7;go_wp2;exact bodyPost_ret (v:=.tuple #[.agg #[.slice vb D.ws.length cb,.slice ac2 D.cs.length cc2,.slice an D.ns.length cn,.slice va D.ks.length cz],.int .i64 0]) (by simp[results,Tryz.results16,go_sem,m0,m1,m2,m3]) rfl ⟨by rw[<-HG.out];exact HBE.out,.inr (.inr ⟨HK.out,HQ.out.1,HQ.out.2,_,_,_,_,oz,rfl,HO5.out,HCE.out⟩)⟩
  ·rw[hR.2 hq] at l11;have HQ:Hid (32768<(emA cells e).ws.length\/1024<(emA cells e).dp):=by show _\/_;unfold okQ at hq;omega
   have ZE:=lY (.slice none 0 0) (.slice none 0 0) (.slice none 0 0) (.slice none 0 0) b5r.1;have BE:=(((B5.setCell (p:=⟨g+1,0,none⟩) hle (.slice none 0 0)).setCell (p:=⟨g+1,1,none⟩) hle (.slice none 0 0)).setCell (p:=⟨g+1,2,none⟩) hle (.slice none 0 0)).setCell (p:=⟨g+1,3,none⟩) hle (.slice none 0 0);obtain⟨⟨m0,m1,m2,m3⟩,-⟩:=as ZE;have HBE:=Lib.hid BE;clear ZE BE B5 b5r E5 hR hkD zA hq df ho5;go_wp2;exact bodyPost_ret (v:=.tuple #[.agg eI,.int .i64 190]) (by simp[results,Tryz.results16,go_sem,m0,m1,m2,m3]) rfl ⟨by rw[<-HG.out];exact HBE.out,.inr (.inl ⟨HK.out,HQ.out,rfl⟩)⟩
abbrev iJ (w:World)(f:Fs)(b cap:Nat):Prop:=Spn w (fun _=>True) f b cap
theorem iJ.below {w w':World}{f:Fs}{b cap:Nat}(h:iJ w f b cap)(bb:Below w.heap.size w w'):iJ w' f b cap:=h.mono (fun i _ hl=>bb.block i hl) bb.size (fun _ h _=>h)
theorem Spn.last {w:World}{P:Nat->Prop}{f:Fs}{b cap:Nat}(h:Spn w P f b cap):f.len+1<=cap/\cap<=maxLen/\w.cell? ⟨b,f.len*4,none⟩=some (.int .i64 (-7)):=by
 obtain⟨zs,hp,hlt,h1,h2,hc,h7,h3⟩:=h;exact⟨h1,h2,h7⟩
theorem Spn.lt {w:World}{P:Nat->Prop}{f:Fs}{b cap:Nat}(h:Spn w P f b cap):b<w.heap.size:=by
 obtain⟨zs,hp,hlt,_⟩:=h;exact hlt
theorem LFn.split {w:World}{P:Nat->Prop}:∀ {x y:Fs}{zs:List Value},LFn w P (x.app y) zs->∃zx zy,zs=zx++zy/\LFn w P x zx/\LFn w P y zy
 | ⟨none⟩,y,zs,h=>⟨[],zs,rfl,rfl,h⟩
 | ⟨some ⟨k,n,nm,a,ks,r⟩⟩,y,zs,h=>by
  obtain⟨b,cap,us,ys,rfl,h1,h2⟩:=h;obtain⟨zx,zy,rfl,h3,h4⟩:=LFn.split (x:=r) h2;exact⟨_,zy,rfl,⟨b,cap,us,zx,rfl,h1,h3⟩,h4⟩
theorem Spn.kid {w:World}{P:Nat->Prop}{x r:Fs}{k n:Int}{nm:List UInt8}{a:Int}{ks:Fs}{b cap:Nat}(h:Spn w P (x.app (.cons k n nm a ks r)) b cap) :
  ∃bk ck,w.cell? ⟨b,x.len*4,none⟩=some (.int .i64 k)/\w.cell? ⟨b,x.len*4+1,none⟩=some (.int .i64 n)/\w.cell? ⟨b,x.len*4+2,none⟩=some (stv nm)/\w.cell? ⟨b,x.len*4+3,none⟩=some (.slice (some ⟨bk,0,none⟩) ks.len ck)/\Spn w P ks bk ck:=by
 obtain⟨zs,hp,hlt,h1,h2,hc,h7,h3⟩:=h;obtain⟨zx,zy,rfl,h4,h5⟩:=LFn.split h3;have hl:=h4.len;obtain⟨bk,ck,us,ys,rfl,h6,-⟩:=h5;have hc':∀ j u,(.int .i64 k::.int .i64 n::stv nm::.slice (some ⟨bk,0,none⟩) ks.len ck::ys:List Value)[j]?=some u->w.cell? ⟨b,x.len*4+j,none⟩=some u:=fun j u hu=>by
  have:=hc (x.len*4+j) u (by rw[List.getElem?_append_right (by omega),hl,Nat.add_sub_cancel_left];exact hu)
  rw[Nat.zero_add] at this;exact this
 exact⟨bk,ck,hc' 0 _ rfl,hc' 1 _ rfl,hc' 2 _ rfl,hc' 3 _ rfl,us,h6⟩
def oU (N:Nat):Prop:=∀ (e:Ex) (b0 cap:Nat) (ao2:Option Addr) (cap2:Nat) (w:World),e.kids.size<N->e.kids.len<=1000000000->e.kids.short->iJ w e.kids b0 cap->SnA w e.kids ao2 ->
 Calls Tryz.prog 49 #[exN e (some ⟨b0,0,none⟩) cap,exN e ao2 cap2] w fun x w'=>x=.returned (.bool true)/\Below w.heap.size w w'
theorem qU {N:Nat}(IH:oU N):oU (N+1):=by
 intro e b0 cap ao2 cap2 w hN hlen hsh S S2;have B0:Below w.heap.size w ((w.alloc (.cells #[.int .i64 e.k,.int .i64 e.n,stv e.nm,.slice (some ⟨b0,0,none⟩) e.kids.len cap] 34)).alloc (.cells #[.int .i64 e.k,.int .i64 e.n,stv e.nm,.slice ao2 e.kids.len cap2] 34)):=((Below.refl _ w).alloc (Nat.le_refl _) _).alloc (by simp) _;have E0:((w.alloc (.cells #[.int .i64 e.k,.int .i64 e.n,stv e.nm,.slice (some ⟨b0,0,none⟩) e.kids.len cap] 34)).alloc (.cells #[.int .i64 e.k,.int .i64 e.n,stv e.nm,.slice ao2 e.kids.len cap2] 34)).heap[w.heap.size]?=some (.cells #[.int .i64 e.k,.int .i64 e.n,stv e.nm,.slice (some ⟨b0,0,none⟩) e.kids.len cap] 34):=(Below.heap_alloc _ _ _ (by simp)).trans (heap_alloc_new w _);have Y0:((w.alloc (.cells #[.int .i64 e.k,.int .i64 e.n,stv e.nm,.slice (some ⟨b0,0,none⟩) e.kids.len cap] 34)).alloc (.cells #[.int .i64 e.k,.int .i64 e.n,stv e.nm,.slice ao2 e.kids.len cap2] 34)).heap[w.heap.size+1]?=some (.cells #[.int .i64 e.k,.int .i64 e.n,stv e.nm,.slice ao2 e.kids.len cap2] 34):=by
  have:=heap_alloc_new (w.alloc (.cells #[.int .i64 e.k,.int .i64 e.n,stv e.nm,.slice (some ⟨b0,0,none⟩) e.kids.len cap] 34)) (.cells #[.int .i64 e.k,.int .i64 e.n,stv e.nm,.slice ao2 e.kids.len cap2] 34)
  simpa using this
 have S0:=iJ.below S B0;have T0:=SnA.below S2 B0;rw[ah,ah];go_enter Tryz.func49,Tryz.ntmps49;go_upto_region 1 with fail;generalize (w.alloc (.cells #[.int .i64 e.k,.int .i64 e.n,stv e.nm,.slice (some ⟨b0,0,none⟩) e.kids.len cap] 34)).alloc (.cells #[.int .i64 e.k,.int .i64 e.n,stv e.nm,.slice ao2 e.kids.len cap2] 34)=w0 at *;obtain⟨bx,hbx⟩:∃bx,bx=w.heap.size:=⟨_,rfl⟩
 rw[<-hbx] at E0 Y0 B0 ⊢;have HB:Hid (bx=w.heap.size):=hbx;clear hbx S S2;obtain⟨p0,p1,p2,p3,pf⟩:=aI E0;obtain⟨q0,q1,q2,q3,qf⟩:=aI Y0;obtain⟨hc1,hc2,h7⟩:=S0.last;have hc1I:(e.kids.len:Int)+1<=(cap:Int):=by omega
 have hcm:cap<=9223372036854775807:=hc2;have hw1:IntKind.i64.wrap ((e.kids.len:Int)+1)=(e.kids.len:Int)+1:=by rw[IntKind.wrap_i64];omega
 have hlt1:(e.kids.len:Int)<(e.kids.len:Int)+1:=by omega
 go_upto_region 3 with fail
 go_quiet (fail)
 have bq:Below w0.heap.size w0 (w0.drewN nq):=bdr (Below.refl _ _) nq;have E0:=(bq.block _ (lt_of_block E0)).trans E0;have Y0:=(bq.block _ (lt_of_block Y0)).trans Y0;have S0:=S0.below bq;have T0:=SnA.below T0 bq;have B0:=B0.trans (bq.mono (by have:=HB.out;have:=B0.size;omega));generalize w0.drewN nq=w0 at *;clear hc1 hc2 h7 hc1I hcm hw1 hlt1 bq p0 p1 p2 p3 pf q0 q1 q2 q3 qf;go_wp2_with fail;go_loopw [5] (fun v wr=>∃(done r:Fs),Hid (e.kids=done.app r)/\v=.int .i64 (done.len:Nat)/\wr.heap[bx]?=some (.cells #[.int .i64 e.k,.int .i64 e.n,stv e.nm,.slice (some ⟨b0,0,none⟩) e.kids.len cap] 34)/\wr.heap[bx+1]?=some (.cells #[.int .i64 e.k,.int .i64 e.n,stv e.nm,.slice ao2 e.kids.len cap2] 34)/\iJ wr e.kids b0 cap/\SnA wr e.kids ao2/\Below bx w wr) (fun v _=>e.kids.len-(intOf v).toNat)
 case atStart=>exact⟨.nil,e.kids,rfl,by show _=Value.int .i64 ((0:Nat):Int);rfl,E0,Y0,S0,T0,B0⟩
 case round =>
  clear E0 Y0 S0 T0 B0;obtain⟨done,r,hk,rfl,E1,Y1,S1,T1,B1⟩:=hrel;have hlk:e.kids.len=done.len+r.len:=by rw[hk.out,Fs.len_app]
  obtain⟨p0,p1,p2,p3,pf⟩:=aI E1;obtain⟨q0,q1,q2,q3,qf⟩:=aI Y1;cases r using Fs.on with
  | nil =>
   have hl0:¬(done.len:Int)<(e.kids.len:Int):=by simp only[Fs.len] at hlk;omega
   clear hlk;go_wp2;go_ret;exact⟨rfl,by rw[<-HB.out];exact B1⟩
  | cons kk kn km ka kks kr =>
   have hl0:(done.len:Int)<(e.kids.len:Int):=by simp only[Fs.len] at hlk;omega
   have hl1:done.len<e.kids.len:=by omega
   have hsz:e.kids.size=done.size+(kks.size+kr.size+1):=by rw[hk.out,Fs.size_app];rfl
   have hsk:(Fs.cons kk kn km ka kks kr).short:=Fs.app_short (by rw[<-hk.out];exact hsh);obtain⟨bk,ck,x0,x1,x2,x3,SK⟩:=Spn.kid (x:=done) (by rw[<-hk.out];exact S1);obtain⟨b',off',ak',ck',hao',lb2,-,y0,y1,y2,y3,TK⟩:=SlN.kidQ (by rw[<-hk.out];exact T1);subst hao';have lb1:b0<wr.heap.size:=S1.lt;have hc:=IH ⟨kk,kn,km,ka,kks⟩ bk ck ak' ck' wr.drew (by show kks.size<N;omega) hsk.2.1 hsk.2.2.1 (iJ.below SK (Below.refl _ wr).drew) (SnA.below TK (Below.refl _ wr).drew);rw[ah,ah] at hc;simp only at hc;clear hlk hsz hsk SK TK;go_wp2;have k0:wr.cell? ⟨bx,3,none⟩=some (.slice (some ⟨b0,0,none⟩) e.kids.len cap)/\wr.cell? ⟨bx+1,3,none⟩=some (.slice (some ⟨b',off',none⟩) e.kids.len cap2)/\wr.cell? ⟨b0,done.len*4,none⟩=some (.int .i64 kk)/\wr.cell? ⟨b0,done.len*4+1,none⟩=some (.int .i64 kn)/\wr.cell? ⟨b0,done.len*4+2,none⟩=some (stv km)/\wr.cell? ⟨b0,done.len*4+3,none⟩=some (.slice (some ⟨bk,0,none⟩) kks.len ck)/\wr.cell? ⟨b',off'+done.len*4,none⟩=some (.int .i64 kk)/\wr.cell? ⟨b',off'+done.len*4+1,none⟩=some (.int .i64 kn)/\wr.cell? ⟨b',off'+done.len*4+2,none⟩=some (stv km)/\wr.cell? ⟨b',off'+done.len*4+3,none⟩=some (.slice ak' kks.len ck'):=⟨p3,q3,x0,x1,x2,x3,y0,y1,y2,y3⟩
   have k1:wr.drew.cell? ⟨bx,3,none⟩=some (.slice (some ⟨b0,0,none⟩) e.kids.len cap)/\wr.drew.cell? ⟨bx+1,3,none⟩=some (.slice (some ⟨b',off',none⟩) e.kids.len cap2)/\wr.drew.cell? ⟨b0,done.len*4,none⟩=some (.int .i64 kk)/\wr.drew.cell? ⟨b0,done.len*4+1,none⟩=some (.int .i64 kn)/\wr.drew.cell? ⟨b0,done.len*4+2,none⟩=some (stv km)/\wr.drew.cell? ⟨b0,done.len*4+3,none⟩=some (.slice (some ⟨bk,0,none⟩) kks.len ck)/\wr.drew.cell? ⟨b',off'+done.len*4,none⟩=some (.int .i64 kk)/\wr.drew.cell? ⟨b',off'+done.len*4+1,none⟩=some (.int .i64 kn)/\wr.drew.cell? ⟨b',off'+done.len*4+2,none⟩=some (stv km)/\wr.drew.cell? ⟨b',off'+done.len*4+3,none⟩=some (.slice ak' kks.len ck'):=k0;have lb:bx+1<wr.drew.heap.size:=lt_of_block Y1;go_region_held (fun wx=>wx.cell? ⟨bx,3,none⟩=some (.slice (some ⟨b0,0,none⟩) e.kids.len cap)/\wx.cell? ⟨bx+1,3,none⟩=some (.slice (some ⟨b',off',none⟩) e.kids.len cap2)/\wx.cell? ⟨b0,done.len*4,none⟩=some (.int .i64 kk)/\wx.cell? ⟨b0,done.len*4+1,none⟩=some (.int .i64 kn)/\wx.cell? ⟨b0,done.len*4+2,none⟩=some (stv km)/\wx.cell? ⟨b0,done.len*4+3,none⟩=some (.slice (some ⟨bk,0,none⟩) kks.len ck)/\wx.cell? ⟨b',off'+done.len*4,none⟩=some (.int .i64 kk)/\wx.cell? ⟨b',off'+done.len*4+1,none⟩=some (.int .i64 kn)/\wx.cell? ⟨b',off'+done.len*4+2,none⟩=some (stv km)/\wx.cell? ⟨b',off'+done.len*4+3,none⟩=some (.slice ak' kks.len ck')) (first|(with_reducible exact k2)|(with_reducible exact k1)|(with_reducible exact k0)) ((go_at_call 49;refine hc.mono ?_;rintro x w2 ⟨rfl,b2⟩;have k2:w2.cell? ⟨bx,3,none⟩=some (.slice (some ⟨b0,0,none⟩) e.kids.len cap)/\w2.cell? ⟨bx+1,3,none⟩=some (.slice (some ⟨b',off',none⟩) e.kids.len cap2)/\w2.cell? ⟨b0,done.len*4,none⟩=some (.int .i64 kk)/\w2.cell? ⟨b0,done.len*4+1,none⟩=some (.int .i64 kn)/\w2.cell? ⟨b0,done.len*4+2,none⟩=some (stv km)/\w2.cell? ⟨b0,done.len*4+3,none⟩=some (.slice (some ⟨bk,0,none⟩) kks.len ck)/\w2.cell? ⟨b',off'+done.len*4,none⟩=some (.int .i64 kk)/\w2.cell? ⟨b',off'+done.len*4+1,none⟩=some (.int .i64 kn)/\w2.cell? ⟨b',off'+done.len*4+2,none⟩=some (stv km)/\w2.cell? ⟨b',off'+done.len*4+3,none⟩=some (.slice ak' kks.len ck'):=⟨(b2.cell (p:=⟨bx,3,none⟩) (Nat.lt_of_succ_lt lb)).trans p3,(b2.cell (p:=⟨bx+1,3,none⟩) lb).trans q3,(b2.cell (p:=⟨b0,done.len*4,none⟩) lb1).trans x0,(b2.cell (p:=⟨b0,done.len*4+1,none⟩) lb1).trans x1,(b2.cell (p:=⟨b0,done.len*4+2,none⟩) lb1).trans x2,(b2.cell (p:=⟨b0,done.len*4+3,none⟩) lb1).trans x3,(b2.cell (p:=⟨b',off'+done.len*4,none⟩) lb2).trans y0,(b2.cell (p:=⟨b',off'+done.len*4+1,none⟩) lb2).trans y1,(b2.cell (p:=⟨b',off'+done.len*4+2,none⟩) lb2).trans y2,(b2.cell (p:=⟨b',off'+done.len*4+3,none⟩) lb2).trans y3⟩));have B2:Below bx w w2:=(B1.drew).trans (b2.mono (by have:=HB.out;have:=B1.size;show bx<=wr.heap.size;omega));have E2:=(b2.block bx (Nat.lt_of_succ_lt lb)).trans E1;have Y2:=(b2.block (bx+1) lb).trans Y1;have S2:=iJ.below (iJ.below S1 (Below.refl _ wr).drew) b2;have T2:=SnA.below (SnA.below T1 (Below.refl _ wr).drew) b2;have hk2:Hid (e.kids=(done.snoc ⟨kk,kn,km,ka,kks⟩).app kr):=by show e.kids=_;rw[hk.out];unfold Fs.snoc;rw[Fs.app_assoc];rfl
   have hl2:(done.len:Int)+1=((done.snoc ⟨kk,kn,km,ka,kks⟩).len:Nat):=by rw[Fs.len_snoc];rfl
   have hl3:e.kids.len-(done.len+1)<e.kids.len-done.len:=by omega
   clear k0 k1 k2 p0 p1 p2 p3 pf q0 q1 q2 q3 qf x0 x1 x2 x3 y0 y1 y2 y3 hc b2 E1 Y1 S1 T1 B1 hk;go_wp2;go_roundw
   case rel=>exact⟨_,kr,hk2,by rw[<-hl2],E2,Y2,S2,T2,B2⟩
   case measure=>simp[intOf];omega
theorem qt:∀ N,oU N -- 49
 | 0=>fun e b0 cap ao2 cap2 w h=>absurd h (Nat.not_lt_zero _)
 | N+1=>qU (qt N)
end Go.Proofs.YtbjdkekhnajafaaGreatDoor
