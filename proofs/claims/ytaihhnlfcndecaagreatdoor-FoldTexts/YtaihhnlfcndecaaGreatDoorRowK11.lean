import Derived.Test.YtaihhnlfcndecaaGreatDoorFolX
import Derived.SizedLaws
import Derived.Lib.LaidTab
import Derived.Stop.LaidErr
import Derived.ShutString
import Derived.Deep.DeepHandedRow
set_option maxRecDepth 100000
set_option maxHeartbeats 8000000
namespace Go.Proofs.YtaihhnlfcndecaaGreatDoor
open Go.ChangeShapes Go.WideShapes Go.ChangeAt Go.RowKit
set_option linter.unusedVariables false
set_option linter.unusedSimpArgs false
def awF:List UInt8:=[49,32,43,32,50,32,42,32,51]
def sevE:Ex:=⟨1,7,[],0,.nil⟩
def Fs.okB:Fs->Bool
 | ⟨none⟩=>true
 | ⟨some ⟨k,n,nm,a,ks,r⟩⟩=>(decide (nm.length<=100)&&(decide (ks.len<=100)&&(decide (-1000<=n)&&decide (n<=1000))))&&(ks.okB&&r.okB)
theorem Fs.okB_fit:∀ {f:Fs},f.okB=true->f.short/\f.rng
 | ⟨none⟩,h=>⟨trivial,trivial⟩
 | ⟨some ⟨k,n,nm,a,ks,r⟩⟩,h=>by
  unfold Fs.okB at h;simp only[Bool.and_eq_true,decide_eq_true_eq] at h;obtain⟨⟨h1,h2,h3,h4⟩,h5,h6⟩:=h;obtain⟨a1,a2⟩:=Fs.okB_fit h5;obtain⟨a3,a4⟩:=Fs.okB_fit h6;exact⟨⟨by unfold maxLen;omega,by omega,a1,a3⟩,⟨by omega,by omega,a2,a4⟩⟩
def okX (x:Ex):Bool:=(decide (x.nm.length<=100)&&(decide (x.kids.len<=100)&&(decide (-1000<=x.n)&&(decide (x.n<=1000)&&decide (x.kids.size<=100)))))&&x.kids.okB
theorem okX_fit {x:Ex}(h:okX x=true):x.fit/\x.kids.size<=100:=by
 unfold okX at h;simp only[Bool.and_eq_true,decide_eq_true_eq] at h;obtain⟨⟨h1,h2,h3,h4,h5⟩,h6⟩:=h;obtain⟨a1,a2⟩:=Fs.okB_fit h6;exact⟨⟨by unfold maxLen;omega,a1,by omega,by omega,by omega,a2⟩,h5⟩
def awFb (l:List UInt8):Bool:=match parseA l with
 | ⟨some (.inr (x,_))⟩=>okX x&&(decide ((typA x).2.1=0)&&(decide (kindP [] (ofE x [])≠0)&&sameE (fldE rulP (ofE x [])) sevE))
 | _=>false
theorem aw_f:awFb awF=true:=by kernel_rfl
theorem awFb_some {l:List UInt8}(h:awFb l=true):∃x t,parseA l=.ok x t/\okX x=true/\(typA x).2.1=0/\kindP [] (ofE x [])≠0/\sameE (fldE rulP (ofE x [])) sevE=true:=by
 unfold awFb at h;cases hp:parseA l using Rs.on with
 | out=>rw[hp] at h;cases h
 | bad e a=>rw[hp] at h;cases h
 | ok x t =>
  rw[hp] at h;simp only[Rs.ok,Bool.and_eq_true,decide_eq_true_eq] at h;exact⟨x,t,rfl,h.1,h.2.1,h.2.2.1,h.2.2.2⟩
theorem PasV.ok {w w':World}{b:Bool}{Y:Ex}{x:Ending}(h:PasV w (pasY b Y) (pasC b []) (pasR b) x w')(hb:b=true):∃ay cy a c,x=.returned (.tuple #[plV Y ay cy (.slice a 0 c),.int .i64 0])/\SnA w' Y.kids ay/\Below w.heap.size w w':=by
 subst hb;obtain⟨g,ay,cy,v,rfl,S,own,-,b⟩:=h;have R:Row w' (fun _=>0) 0 3 1 v 0 []:=⟨own,fun _ _=>rfl⟩
 obtain⟨a,c,rfl⟩:=R.form;exact⟨ay,cy,a,c,rfl,S.sl.all,b⟩
theorem awakef_r (w:World)(hW:Wd w):Calls Tryz.prog 15 #[] w fun e w'=>e=.returned (.bool true)/\Below w.heap.size w w':=by
 obtain⟨x,t,hx,hokx,ht,hk,hsv⟩:=awFb_some aw_f;obtain⟨hfx,hszx⟩:=okX_fit hokx;clear hokx;have c1:=parse_q ⟨awF.toArray⟩ w (by decide);have e1:(ByteArray.mk awF.toArray).data.toList=awF:=by simp
 rw[e1,hx] at c1;have hfp:FitN (ofE x []):=⟨ofE_nm x [] hfx.nm,Nat.le_trans (ofE_len x []) hfx.len,ofE_short x [] hfx.sh⟩
 have hrp:=ofE_rng (e:=x) [] ⟨hfx.n1,hfx.n2⟩ hfx.rng (by simp;omega);clear e1 hx;go_enter Tryz.func15,Tryz.ntmps15;go_wp2_with fail;refine c1.mono ?_;rintro e w1 ⟨aox,capx,rfl,S1,b1⟩;clear c1;have b2:Below w1.heap.size w1 (w1.alloc (.cells #[.int .i64 x.k,.int .i64 x.n,stv x.nm,.slice aox x.kids.len capx,.int .i64 x.a] 25)):=(Below.refl _ w1).alloc (Nat.le_refl _) _;have X2:(w1.alloc (.cells #[.int .i64 x.k,.int .i64 x.n,stv x.nm,.slice aox x.kids.len capx,.int .i64 x.a] 25)).heap[w1.heap.size]?=some (.cells #[.int .i64 x.k,.int .i64 x.n,stv x.nm,.slice aox x.kids.len capx,.int .i64 x.a] 25 (0,0)):=heap_alloc_new w1 _;have B2:=b1.trans (b2.mono b1.size);have S2:SlT (w1.alloc (.cells #[.int .i64 x.k,.int .i64 x.n,stv x.nm,.slice aox x.kids.len capx,.int .i64 x.a] 25)) x.kids aox:=SlT.below (Sl.all S1) b2;rw[exV_out];go_upto_region 2 with fail;generalize w1.alloc (.cells #[.int .i64 x.k,.int .i64 x.n,stv x.nm,.slice aox x.kids.len capx,.int .i64 x.a] 25)=w2 at *;generalize w1.heap.size=bx at *;have c3:=of14_c x aox capx w2 hfx (by omega) S2;rw[exV_out] at c3;obtain⟨p0,p1,p2,p3,p4,pf⟩:=box5 X2;go_wp2_with fail;refine c3.mono ?_;intro e w3 h3;have h3:=h3.ok ht;clear c3;generalize ofE x []=p at *;obtain⟨ap,cp,rfl,S3,b3⟩:=h3;have B3:=B2.trans (b3.mono B2.size);clear p0 p1 p2 p3 p4 pf b1 b2 b3 B2 S2 X2 S1 hfx hszx ht;have b4:Below w3.heap.size w3 (w3.alloc (.cells #[.int .i64 p.k,.int .i64 p.n,stv p.nm,.slice ap p.kids.len cp,.slice none 0 0] 37)):=(Below.refl _ w3).alloc (Nat.le_refl _) _;have X4:(w3.alloc (.cells #[.int .i64 p.k,.int .i64 p.n,stv p.nm,.slice ap p.kids.len cp,.slice none 0 0] 37)).heap[w3.heap.size]?=some (.cells #[.int .i64 p.k,.int .i64 p.n,stv p.nm,.slice ap p.kids.len cp,.slice none 0 0] 37 (0,0)):=heap_alloc_new w3 _;have B4:=B3.trans (b4.mono B3.size);have S4:=SnA.below S3.all b4;rw[plV_out];go_upto_region 3 with fail;generalize w3.alloc (.cells #[.int .i64 p.k,.int .i64 p.n,stv p.nm,.slice ap p.kids.len cp,.slice none 0 0] 37)=w4 at *;generalize w3.heap.size=bp at *;have c5:=foldp_c p ap cp (.slice none 0 0) [] w4 hfp hrp.1 hrp.2 (hW.below B4) ⟨none,0,rfl,.inl rfl⟩ (by simp) S4;rw[plV_out] at c5;have hfY:=fldE_fit hfp;obtain⟨p0,p1,p2,p3,p4,pf⟩:=box5 X4;go_wp2_with fail;refine c5.mono ?_;intro e w5 h5;have h5:=h5.ok (decide_eq_true hk);clear c5;generalize fldE rulP p=Y at *;obtain⟨ay,cy,a5,c5,rfl,S5,b5⟩:=h5;have B5:=B4.trans (b5.mono B4.size);clear p0 p1 p2 p3 p4 pf hk B3 B4 S4 X4 S3 hfp hrp b4 b5;rw[plV_out];have b6:Below w5.heap.size w5 (w5.alloc (.cells #[.int .i64 Y.k,.int .i64 Y.n,stv Y.nm,.slice ay Y.kids.len cy,.slice a5 0 c5] 37)):=(Below.refl _ w5).alloc (Nat.le_refl _) _;have X6:(w5.alloc (.cells #[.int .i64 Y.k,.int .i64 Y.n,stv Y.nm,.slice ay Y.kids.len cy,.slice a5 0 c5] 37)).heap[w5.heap.size]?=some (.cells #[.int .i64 Y.k,.int .i64 Y.n,stv Y.nm,.slice ay Y.kids.len cy,.slice a5 0 c5] 37 (0,0)):=heap_alloc_new w5 _;have B6:=B5.trans (b6.mono B5.size);have S6:=SnA.below S5 b6;clear b6 B5 S5;go_upto_region 4 with fail;generalize w5.alloc (.cells #[.int .i64 Y.k,.int .i64 Y.n,stv Y.nm,.slice ay Y.kids.len cy,.slice a5 0 c5] 37)=w6 at *;generalize w5.heap.size=bq at *;have c7:=same14_c Y sevE ay none cy 0 (.slice a5 0 c5) (.slice none 0 0) [] [] w6 ⟨a5,c5,rfl,.inl rfl⟩ ⟨none,0,rfl,.inl rfl⟩ (by simp) ⟨hfY.len,hfY.sh⟩ ⟨by show 0<=_;omega,trivial⟩ S6 (.inl rfl);rw[hsv,plV_out,plV_out] at c7;obtain⟨p0,p1,p2,p3,p4,pf⟩:=box5 X6;clear X6 hsv;go_wp2_with fail;refine c7.mono ?_;rintro e w7 ⟨rfl,b7⟩;have B7:=B6.trans (b7.mono B6.size);clear c7 b7 B6;go_wp2;go_ret;exact⟨rfl,B7⟩
theorem hvP_not {e:Ex}{cells:List Int}(h:hvP e cells=false):cells.length<=20000/\e.kids.size<=20000:=by
 unfold hvP at h;simp only[Bool.or_eq_false_iff,decide_eq_false_iff_not] at h;have h1:=wgF_size e.kids (20000-1) (by omega);omega
theorem foldPlans_walk (e:Ex)(ao:Option Addr)(cap:Nat)(cv:Value)(cells:List Int)(w:World)(hlen:e.kids.len<=maxLen)(hwd:e.kids.wide)(hfit:e.kids.size<=100000000->FitR e)(S:SnA w e.kids ao)(hc:InA w cv cells)(hcl:cells.length<=maxLen)(hW:Wd w) :
  Calls Tryz.prog 4 #[plV e ao cap cv] w fun x w'=>x=.returned (.bool true)/\Below w.heap.size w w':=by
 obtain⟨ac,cc,hcv,hx⟩:=hc;have hc:InA w cv cells:=⟨ac,cc,hcv,hx⟩
 subst hcv;clear hx;have B0:Below w.heap.size w (w.alloc (.cells #[.int .i64 e.k,.int .i64 e.n,stv e.nm,.slice ao e.kids.len cap,.slice ac cells.length cc] 37)):=(Below.refl _ w).alloc (Nat.le_refl _) _;have P0:(w.alloc (.cells #[.int .i64 e.k,.int .i64 e.n,stv e.nm,.slice ao e.kids.len cap,.slice ac cells.length cc] 37)).heap[w.heap.size]?=some (.cells #[.int .i64 e.k,.int .i64 e.n,stv e.nm,.slice ao e.kids.len cap,.slice ac cells.length cc] 37 (0,0)):=heap_alloc_new w _;have S0:=SnA.below S B0;have I0:=hc.below B0;have W0:=hW.below B0;rw[plV_out];go_enter Tryz.func4,Tryz.ntmps4;go_upto_region 1 with fail;generalize w.alloc (.cells #[.int .i64 e.k,.int .i64 e.n,stv e.nm,.slice ao e.kids.len cap,.slice ac cells.length cc] 37)=w0 at *;obtain⟨n0,hn0⟩:∃n0,n0=w.heap.size:=⟨_,rfl⟩
 rw[<-hn0] at P0 B0;try rw[<-hn0]
 have HB:Hid (n0=w.heap.size):=hn0;clear hn0 hc hW S;have c1:=heavy14_c e ao cap 0 _ cells w0 I0 hcl hlen hwd S0;rw[plV_out] at c1;obtain⟨p0,p1,p2,p3,p4,pf⟩:=box5 P0;go_wp2_with fail;refine c1.mono ?_;rintro x w1 ⟨rfl,b1⟩;have P1:=(b1.block _ (lt_of_block P0)).trans P0;have S1:=SnA.below S0 b1;have I1:=I0.below b1;have W1:=W0.below b1;have B1:Below n0 w w1:=B0.trans (b1.mono (by have:=lt_of_block P0;omega));clear c1 b1 P0 S0 I0 W0 B0 p0 p1 p2 p3 p4 pf;cases hh:hvP e cells with
 | true =>
  clear hh;go_wp2;go_ret;exact⟨rfl,by rw[<-HB.out];exact B1⟩
 | false =>
 obtain⟨hcl2,hsz⟩:=hvP_not hh;obtain⟨hf,hn,hrn⟩:=hfit (by omega);clear hh hfit hcl hlen hwd;obtain⟨Y,hY⟩:∃Y,Y=pasY (decide (kindP cells e≠0)) (fldE rulP e):=⟨_,rfl⟩
 obtain⟨C,hC⟩:∃C,C=pasC (decide (kindP cells e≠0)) cells:=⟨_,rfl⟩
 obtain⟨R,hR⟩:∃R,R=pasR (decide (kindP cells e≠0)):=⟨_,rfl⟩
 have hfY:FitN Y:=by rw[hY];exact pasY_fit (fldE_fit hf)
 have hlC:C.length<=100000:=by rw[hC];have:=(fld_pas_len (b:=decide (kindP cells e≠0)) (cells:=cells));omega
 have HD:Hid (∀ (ao:Option Addr) (cap:Nat) (cv:Value) (w:World),InA w cv cells->SnA w e.kids ao->Wd w->Calls Tryz.prog 16 #[plV e ao cap cv] w (PasW w Y C R)):=fun ao cap cv w h1 h2 h3=>by
  rw[hY,hC,hR];exact(foldd_c e ao cap cv cells w hf hn hrn h1 (by omega) h2).mono fun x w' h=>h.w
 have HP:Hid (∀ (ao:Option Addr) (cap:Nat) (cv:Value) (w:World),InA w cv cells->SnA w e.kids ao->Wd w->Calls Tryz.prog 18 #[plV e ao cap cv] w (PasV w Y C R)):=fun ao cap cv w h1 h2 h3=>by
  rw[hY,hC,hR];exact foldp_c e ao cap cv cells w hf hn hrn h3 h1 (by omega) h2
 clear hY hC hR
 -- awake
 have c2:=awakef_r w1 W1;go_wp2_with fail;refine c2.mono ?_;rintro x w2 ⟨rfl,b2⟩;have P2:=(b2.block _ (lt_of_block P1)).trans P1;have S2:=SnA.below S1 b2;have I2:=I1.below b2;have W2:=W1.below b2;have B2:Below n0 w w2:=B1.trans (b2.mono (by have:=lt_of_block P1;omega));clear c2 b2 P1 S1 I1 W1 B1
 -- what the document wants
 obtain⟨p0,p1,p2,p3,p4,pf⟩:=box5 P2;have c3:=HD.out ao cap _ w2 I2 S2 W2;rw[plV_out] at c3;go_wp2_with fail;refine c3.mono ?_;rintro x w3 ⟨aw,cw,vw,rfl,S3w,I3w,b3⟩;obtain⟨acw,ccw,hvw,hx3⟩:=I3w;have I3w:InA w3 vw C:=⟨acw,ccw,hvw,hx3⟩
 subst hvw;clear hx3;have P3:=(b3.block _ (lt_of_block P2)).trans P2;have S3:=SnA.below S2 b3;have I3:=I2.below b3;have W3:=W2.below b3;have B3:Below n0 w w3:=B2.trans (b3.mono (by have:=lt_of_block P2;omega));have b4:Below w3.heap.size w3 (w3.alloc (.cells #[.int .i64 Y.k,.int .i64 Y.n,stv Y.nm,.slice aw Y.kids.len cw,.slice acw C.length ccw] 37)):=(Below.refl _ w3).alloc (Nat.le_refl _) _;have V4:(w3.alloc (.cells #[.int .i64 Y.k,.int .i64 Y.n,stv Y.nm,.slice aw Y.kids.len cw,.slice acw C.length ccw] 37)).heap[w3.heap.size]?=some (.cells #[.int .i64 Y.k,.int .i64 Y.n,stv Y.nm,.slice aw Y.kids.len cw,.slice acw C.length ccw] 37 (0,0)):=heap_alloc_new w3 _;have P4:=(b4.block _ (lt_of_block P3)).trans P3;have S4:=SnA.below S3 b4;have I4:=I3.below b4;have W4:=W3.below b4;have S4w:=SnA.below S3w b4;have I4w:=I3w.below b4;have B4:Below n0 w (w3.alloc (.cells #[.int .i64 Y.k,.int .i64 Y.n,stv Y.nm,.slice aw Y.kids.len cw,.slice acw C.length ccw] 37)):=B3.trans (b4.mono (by have:=lt_of_block P3;omega));have hnw:n0<w3.heap.size:=lt_of_block P3;clear c3 b3 b4 P2 S2 I2 W2 B2 P3 S3 I3 W3 B3 S3w I3w p0 p1 p2 p3 p4 pf HD;rw[plV_out];go_upto_region 5 with fail;generalize w3.alloc (.cells #[.int .i64 Y.k,.int .i64 Y.n,stv Y.nm,.slice aw Y.kids.len cw,.slice acw C.length ccw] 37)=w4 at *;generalize w3.heap.size=nw at *
 -- the plan,lent
 obtain⟨p0,p1,p2,p3,p4,pf⟩:=box5 P4;have c5:=lentplan_c e ao cap _ cells w4 hf.len hf.sh I4 (by omega) S4;rw[plV_out] at c5;go_wp2_with fail;refine c5.mono ?_;rintro x w5 ⟨bo,co,vo,rfl,S5o,L5o,b5⟩;obtain⟨go,cgo,hvo,hx5⟩:=L5o;have L5o:LnI w5 (Nw w4.heap.size) vo cells:=⟨go,cgo,hvo,hx5⟩
 subst hvo;clear hx5;have P5:=(b5.block _ (lt_of_block P4)).trans P4;have V5:=(b5.block _ (lt_of_block V4)).trans V4;have S5:=SnA.below S4 b5;have I5:=I4.below b5;have W5:=W4.below b5;have S5w:=SnA.below S4w b5;have I5w:=I4w.below b5;have B5:Below n0 w w5:=B4.trans (b5.mono (by have:=lt_of_block P4;omega));have b6:Below w5.heap.size w5 (w5.alloc (.cells #[.int .i64 e.k,.int .i64 e.n,stv e.nm,.slice (some ⟨bo,0,none⟩) e.kids.len co,.slice (some ⟨go,0,none⟩) cells.length cgo] 37)):=(Below.refl _ w5).alloc (Nat.le_refl _) _;have O6:(w5.alloc (.cells #[.int .i64 e.k,.int .i64 e.n,stv e.nm,.slice (some ⟨bo,0,none⟩) e.kids.len co,.slice (some ⟨go,0,none⟩) cells.length cgo] 37)).heap[w5.heap.size]?=some (.cells #[.int .i64 e.k,.int .i64 e.n,stv e.nm,.slice (some ⟨bo,0,none⟩) e.kids.len co,.slice (some ⟨go,0,none⟩) cells.length cgo] 37 (0,0)):=heap_alloc_new w5 _;have P6:=(b6.block _ (lt_of_block P5)).trans P5;have V6:=(b6.block _ (lt_of_block V5)).trans V5;have S6:=SnA.below S5 b6;have I6:=I5.below b6;have W6:=W5.below b6;have S6w:=SnA.below S5w b6;have I6w:=I5w.below b6;have S6o:SpnA (w5.alloc (.cells #[.int .i64 e.k,.int .i64 e.n,stv e.nm,.slice (some ⟨bo,0,none⟩) e.kids.len co,.slice (some ⟨go,0,none⟩) cells.length cgo] 37)) e.kids bo co:=SpnA.below (S5o.mono (fun _ _ _=>rfl) (Nat.le_refl _) (fun _ _ _=>trivial)) b6;have L6o:LnI (w5.alloc (.cells #[.int .i64 e.k,.int .i64 e.n,stv e.nm,.slice (some ⟨bo,0,none⟩) e.kids.len co,.slice (some ⟨go,0,none⟩) cells.length cgo] 37)) (fun _=>True) (.slice (some ⟨go,0,none⟩) cells.length cgo) cells:=(L5o.mono (fun _ _ _=>rfl) (Nat.le_refl _) (fun _ _ _=>trivial)).below b6;have B6:Below n0 w (w5.alloc (.cells #[.int .i64 e.k,.int .i64 e.n,stv e.nm,.slice (some ⟨bo,0,none⟩) e.kids.len co,.slice (some ⟨go,0,none⟩) cells.length cgo] 37)):=B5.trans (b6.mono (by have:=lt_of_block P5;omega));clear c5 b5 b6 P4 V4 S4 I4 W4 S4w I4w B4 P5 V5 S5 I5 W5 S5w I5w B5 S5o L5o p0 p1 p2 p3 p4 pf;rw[plV_out];go_upto_region 6 with fail;generalize w5.alloc (.cells #[.int .i64 e.k,.int .i64 e.n,stv e.nm,.slice (some ⟨bo,0,none⟩) e.kids.len co,.slice (some ⟨go,0,none⟩) cells.length cgo] 37)=w6 at *;generalize w5.heap.size=no at *;go_wp2;go_loopw [7] (fun v wr=>∃(i:Nat),v=.int .i64 (i:Nat)/\i<=2/\wr.heap[n0]?=some (.cells #[.int .i64 e.k,.int .i64 e.n,stv e.nm,.slice ao e.kids.len cap,.slice ac cells.length cc] 37 (0,0))/\wr.heap[nw]?=some (.cells #[.int .i64 Y.k,.int .i64 Y.n,stv Y.nm,.slice aw Y.kids.len cw,.slice acw C.length ccw] 37 (0,0))/\wr.heap[no]?=some (.cells #[.int .i64 e.k,.int .i64 e.n,stv e.nm,.slice (some ⟨bo,0,none⟩) e.kids.len co,.slice (some ⟨go,0,none⟩) cells.length cgo] 37 (0,0))/\SnA wr e.kids ao/\InA wr (.slice ac cells.length cc) cells/\Wd wr/\SnA wr Y.kids aw/\InA wr (.slice acw C.length ccw) C/\SpnA wr e.kids bo co/\LnI wr (fun _=>True) (.slice (some ⟨go,0,none⟩) cells.length cgo) cells/\Below n0 w wr) (fun v _=>2-(intOf v).toNat)
 case atStart=>exact⟨0,by show _=Value.int .i64 ((0:Nat):Int);rfl,by omega,P6,V6,O6,S6,I6,W6,S6w,I6w,S6o,L6o,B6⟩
 case round =>
  clear P6 V6 O6 S6 I6 W6 S6w I6w S6o L6o B6;obtain⟨i,rfl,hi,P1,V1,O1,S1,I1,W1,S1w,I1w,S1o,L1o,B1⟩:=hrel;by_cases hlt:i<2
  ·have hltI:(i:Int)<2:=by omega
   obtain⟨q0,q1,q2,q3,q4,qf⟩:=box5 O1;have c1:=HP.out (some ⟨bo,0,none⟩) co _ wr L1o.inA (Spn.sl S1o) W1;rw[plV_out] at c1;go_wp2_with fail;refine c1.mono ?_;rintro x w2 ⟨g,aq,cq,vq,rfl,S2q,own2,hown2,b2⟩;obtain⟨acq,ccq,hvq⟩:∃acq ccq,vq=.slice acq C.length ccq:=Row.form (w:=w2) (o:=fun _=>0) (i:=0) ⟨own2,fun _ _=>rfl⟩;subst hvq;have I2q:InA w2 (.slice acq C.length ccq) C:=InA.ofRow (o:=fun _=>0) (i:=0) ⟨own2,fun _ _=>rfl⟩;have P2:=(b2.block _ (lt_of_block P1)).trans P1;have V2:=(b2.block _ (lt_of_block V1)).trans V1;have O2:=(b2.block _ (lt_of_block O1)).trans O1;have hr1:=lt_of_block P1;have HK:Hid (wr.heap[n0]?=some (.cells #[.int .i64 e.k,.int .i64 e.n,stv e.nm,.slice ao e.kids.len cap,.slice ac cells.length cc] 37 (0,0))/\wr.heap[nw]?=some (.cells #[.int .i64 Y.k,.int .i64 Y.n,stv Y.nm,.slice aw Y.kids.len cw,.slice acw C.length ccw] 37 (0,0))/\wr.heap[no]?=some (.cells #[.int .i64 e.k,.int .i64 e.n,stv e.nm,.slice (some ⟨bo,0,none⟩) e.kids.len co,.slice (some ⟨go,0,none⟩) cells.length cgo] 37 (0,0))):=⟨P1,V1,O1⟩
   have b3:Below w2.heap.size w2 (w2.alloc (.cells #[.int .i64 Y.k,.int .i64 Y.n,stv Y.nm,.slice aq Y.kids.len cq,.slice acq C.length ccq] 37)):=(Below.refl _ w2).alloc (Nat.le_refl _) _;have Q3:(w2.alloc (.cells #[.int .i64 Y.k,.int .i64 Y.n,stv Y.nm,.slice aq Y.kids.len cq,.slice acq C.length ccq] 37)).heap[w2.heap.size]?=some (.cells #[.int .i64 Y.k,.int .i64 Y.n,stv Y.nm,.slice aq Y.kids.len cq,.slice acq C.length ccq] 37 (0,0)):=heap_alloc_new w2 _;have bb:Below wr.heap.size wr (w2.alloc (.cells #[.int .i64 Y.k,.int .i64 Y.n,stv Y.nm,.slice aq Y.kids.len cq,.slice acq C.length ccq] 37)):=b2.trans (b3.mono b2.size);have P3:=(b3.block _ (lt_of_block P2)).trans P2;have V3:=(b3.block _ (lt_of_block V2)).trans V2;have O3:=(b3.block _ (lt_of_block O2)).trans O2;have S3:=SnA.below S1 bb;have I3:=I1.below bb;have S3w:=SnA.below S1w bb;have I3w:=I1w.below bb;have S3o:=SpnA.below S1o bb;have L3o:=L1o.below bb;have S3q:SlcN (w2.alloc (.cells #[.int .i64 Y.k,.int .i64 Y.n,stv Y.nm,.slice aq Y.kids.len cq,.slice acq C.length ccq] 37)) (fun k=>wr.heap.size<=k/\k≠g) Y.kids aq cq:=S2q.mono (fun i _ hl=>b3.block i hl) b3.size (fun _ h _=>h);have own3:(w2.alloc (.cells #[.int .i64 Y.k,.int .i64 Y.n,stv Y.nm,.slice aq Y.kids.len cq,.slice acq C.length ccq] 37)).ownsRow 0 3 1 (.slice acq C.length ccq) C.length (C.map (Value.int .i64)):=(Row.step (w:=w2) (o:=fun _=>0) (i:=0) (I:=fun _=>False) ⟨own2,fun _ _=>rfl⟩ (Below.toStepC b3) id).1;have I3q:=I2q.below b3;clear c1 b2 b3 P1 V1 O1 P2 V2 O2 q0 q1 q2 q3 q4 qf S2q own2 I2q;rw[plV_out];go_upto_region 10 with fail;generalize w2.alloc (.cells #[.int .i64 Y.k,.int .i64 Y.n,stv Y.nm,.slice aq Y.kids.len cq,.slice acq C.length ccq] 37)=w3 at *;generalize w2.heap.size=nq at *
   -- the same?
   obtain⟨q0,q1,q2,q3,q4,qf⟩:=box5 Q3;obtain⟨v0,v1,v2,v3,v4,vf⟩:=box5 V3;have c4:=same14_c Y Y aq aw cq cw _ _ C C w3 I3q I3w (by omega) ⟨hfY.len,hfY.sh⟩ ⟨hfY.len,hfY.sh⟩ S3q.sl.all S3w;rw[sameE_self,decide_eq_true rfl,plV_out,plV_out] at c4;go_wp2_with fail;refine c4.mono ?_;rintro x w4 ⟨rfl,b4⟩;have P4:=(b4.block _ (lt_of_block P3)).trans P3;have O4:=(b4.block _ (lt_of_block O3)).trans O3;have Q4:=(b4.block _ (lt_of_block Q3)).trans Q3;have S4:=SnA.below S3 b4;have I4:=I3.below b4;have S4o:=SpnA.below S3o b4;have L4o:=L3o.below b4;have bb4:=bb.trans (b4.mono bb.size);have S4q:SlcN w4 (fun k=>wr.heap.size<=k/\k≠g) Y.kids aq cq:=S3q.mono (fun i _ hl=>b4.block i hl) b4.size (fun _ h _=>h);have own4:w4.ownsRow 0 3 1 (.slice acq C.length ccq) C.length (C.map (Value.int .i64)):=(Row.step (w:=w3) (o:=fun _=>0) (i:=0) (I:=fun _=>False) ⟨own3,fun _ _=>rfl⟩ (Below.toStepC b4) id).1;clear c4 b4 P3 V3 O3 Q3 S3 I3 S3w I3w S3o L3o bb S3q own3 I3q q0 q1 q2 q3 q4 qf v0 v1 v2 v3 v4 vf
   -- kept?
   obtain⟨p0,p1,p2,p3,p4,pf⟩:=box5 P4;obtain⟨t0,t1,t2,t3,t4,tf⟩:=box5 O4;have c5:=keptplan_c e bo co _ ao cap _ cells w4 hf.len hf.sh (by omega) S4o S4 L4o I4;rw[plV_out,plV_out] at c5;go_wp2_with fail;refine c5.mono ?_;rintro x w5 ⟨rfl,b5⟩;have Q5:=(b5.block _ (lt_of_block Q4)).trans Q4;have bb5:=bb4.trans (b5.mono bb4.size);have S5q:SlcN w5 (fun k=>wr.heap.size<=k/\k≠g) Y.kids aq cq:=S4q.mono (fun i _ hl=>b5.block i hl) b5.size (fun _ h _=>h);have own5:w5.ownsRow 0 3 1 (.slice acq C.length ccq) C.length (C.map (Value.int .i64)):=(Row.step (w:=w4) (o:=fun _=>0) (i:=0) (I:=fun _=>False) ⟨own4,fun _ _=>rfl⟩ (Below.toStepC b5) id).1;have P5:=(b5.block _ (lt_of_block P4)).trans P4;have O5:=(b5.block _ (lt_of_block O4)).trans O4;clear c5 b5 P4 O4 Q4 S4 I4 S4o L4o bb4 S4q own4 p0 p1 p2 p3 p4 pf t0 t1 t2 t3 t4 tf;obtain⟨q0,q1,q2,q3,q4,qf⟩:=box5 Q5;have c6:=overplan_c Y aq cq _ C wr.heap.size g w5 hfY.len hfY.sh (by omega) bb5.size S5q own5 hown2;rw[plV_out] at c6;have hRR:((R:Int) != (R:Int))=false:=by simp
   go_upto_region 14 with fail;go_wp2_with fail;refine c6.mono ?_;rintro x w6 ⟨rfl,b6⟩;have bb6:Below wr.heap.size wr w6:=bb5.trans b6;obtain⟨KP,KV,KO⟩:=HK.out;have P6:=(bb6.block _ (lt_of_block KP)).trans KP;have V6:=(bb6.block _ (lt_of_block KV)).trans KV;have O6:=(bb6.block _ (lt_of_block KO)).trans KO;have S6:=SnA.below S1 bb6;have I6:=I1.below bb6;have W6:=W1.below bb6;have S6w:=SnA.below S1w bb6;have I6w:=I1w.below bb6;have S6o:=SpnA.below S1o bb6;have L6o:=L1o.below bb6;have B6:Below n0 w w6:=B1.trans (bb6.mono (Nat.le_of_lt hr1));clear c6 b6 bb5 P5 O5 Q5 S5q own5 KP KV KO HK S1 I1 W1 S1w I1w S1o L1o B1 q0 q1 q2 q3 q4 qf bb6 hRR;obtain⟨p0,p1,p2,p3,p4,pf⟩:=box5 P6;obtain⟨t0,t1,t2,t3,t4,tf⟩:=box5 O6;have c7:=keptplan_c e bo co _ ao cap _ cells w6 hf.len hf.sh (by omega) S6o S6 L6o I6;rw[plV_out,plV_out] at c7;go_wp2_with fail;refine c7.mono ?_;rintro x w7 ⟨rfl,b7⟩;have P7:=(b7.block _ (lt_of_block P6)).trans P6;have V7:=(b7.block _ (lt_of_block V6)).trans V6;have O7:=(b7.block _ (lt_of_block O6)).trans O6;have S7:=SnA.below S6 b7;have I7:=I6.below b7;have W7:=W6.below b7;have S7w:=SnA.below S6w b7;have I7w:=I6w.below b7;have S7o:=SpnA.below S6o b7;have L7o:=L6o.below b7;have B7:Below n0 w w7:=B6.trans (b7.mono (by have:=lt_of_block P6;omega));clear c7 b7 P6 V6 O6 S6 I6 W6 S6w I6w S6o L6o B6 p0 p1 p2 p3 p4 pf t0 t1 t2 t3 t4 tf;go_wp2;go_roundw
   case rel=>(try ((repeat apply Exists.intro);refine⟨?_,rfl⟩));exact⟨i+1,by go_num,by omega,P7,V7,O7,S7,I7,W7,S7w,I7w,S7o,L7o,B7⟩
   case measure=>simp[intOf];omega
  ·have hltI:¬(i:Int)<2:=by omega
   clear P1 V1 O1 S1 I1 W1 S1w I1w S1o L1o;go_wp2;go_ret;exact⟨rfl,by rw[<-HB.out];exact B1⟩
def Bd {α:Type}(R:Rs α):Prop:=∀ e a,R=.bad e a->e=120\/e=121
section
variable {rec:Rdr}
end
theorem Fs.short_wide:∀ {f:Fs},f.short->f.wide
 | ⟨none⟩,h=>trivial
 | ⟨some ⟨k,n,nm,a,ks,r⟩⟩,h=>⟨by have:=h.2.1;unfold maxLen;omega,Fs.short_wide (f:=ks) h.2.2.1,Fs.short_wide (f:=r) h.2.2.2⟩
theorem PostOf.not {w w':World}{e:Ex}{x:Ending}(h:PostOf w e x w')(ht:¬(typA e).2.1=0):x=.returned (.tuple #[.agg #[.int .i64 0,.int .i64 0,.string ⟨#[]⟩,.slice none 0 0,.slice none 0 0],.int .i64 140])/\Below w.heap.size w w':=by
 unfold PostOf at h;rw[if_neg ht] at h;exact h
theorem typ_noEx:¬(typA noEx).2.1=0:=by decide
theorem foldTexts_walk (s:ByteArray)(w:World)(hs:s.size<=140737488351232)(hW:Wd w) :
  Calls Tryz.prog 5 #[.string s] w fun x w'=>x=.returned (.bool true)/\Below w.heap.size w w':=by
 have c1:=parse_q s w (by unfold maxLen;omega)
 -- what the reader gives: a tree that fits,and an error or none
 have HR:∀ (e:Ending) (w1:World),PostR w (parseA s.data.toList) e w1->∃(x:Ex) (aox:Option Addr) (capx er pl:Nat),e=.returned (.tuple #[exV x aox capx,.int .i64 (er:Nat),.int .i64 (pl:Nat)])/\x.fit/\x.kids.size<=2000/\(er≠0->¬(typA x).2.1=0)/\SlT w1 x.kids aox/\Below w.heap.size w w1:=by
  intro e w1 h;cases hp:parseA s.data.toList using Rs.on with
  | out=>rw[hp] at h;exact h.elim
  | bad er a =>
   rw[hp] at h;obtain⟨rfl,b⟩:=h;exact⟨noEx,none,0,er,a,rfl,⟨by simp[noEx],trivial,by show 0<=_;omega,by show _<=(0:Int);decide,by show (0:Int)<=_;decide,trivial⟩,by show 0<=_;omega,fun _=>typ_noEx,.inl rfl,b⟩
  | ok x t =>
   rw[hp] at h;obtain⟨ao,cap,rfl,S,b⟩:=h;have hok:=parse_okT hp;exact⟨x,ao,cap,0,0,rfl,hok.fit,hok.size,fun h=>absurd rfl h,Sl.all S,b⟩
 generalize parseA s.data.toList=RS at *;go_enter Tryz.func5,Tryz.ntmps5;go_wp2_with fail;refine c1.mono ?_;intro e w1 h1;obtain⟨x,aox,capx,er,pl,rfl,hfx,hszx,her,S1,b1⟩:=HR e w1 h1;clear c1 h1 HR;have b2:Below w1.heap.size w1 (w1.alloc (.cells #[.int .i64 x.k,.int .i64 x.n,stv x.nm,.slice aox x.kids.len capx,.int .i64 x.a] 25)):=(Below.refl _ w1).alloc (Nat.le_refl _) _;have X2:(w1.alloc (.cells #[.int .i64 x.k,.int .i64 x.n,stv x.nm,.slice aox x.kids.len capx,.int .i64 x.a] 25)).heap[w1.heap.size]?=some (.cells #[.int .i64 x.k,.int .i64 x.n,stv x.nm,.slice aox x.kids.len capx,.int .i64 x.a] 25 (0,0)):=heap_alloc_new w1 _;have B2:=b1.trans (b2.mono b1.size);have S2:SlT (w1.alloc (.cells #[.int .i64 x.k,.int .i64 x.n,stv x.nm,.slice aox x.kids.len capx,.int .i64 x.a] 25)) x.kids aox:=SlT.below S1 b2;rw[exV_out];go_upto_region 2 with fail;generalize w1.alloc (.cells #[.int .i64 x.k,.int .i64 x.n,stv x.nm,.slice aox x.kids.len capx,.int .i64 x.a] 25)=w2 at *;generalize w1.heap.size=bx at *;have c3:=of14_c x aox capx w2 hfx (by omega) S2;rw[exV_out] at c3;obtain⟨p0,p1,p2,p3,p4,pf⟩:=box5 X2;have hfp:FitN (ofE x []):=⟨ofE_nm x [] hfx.nm,Nat.le_trans (ofE_len x []) hfx.len,ofE_short x [] hfx.sh⟩
 have hrp:=ofE_rng (e:=x) [] ⟨hfx.n1,hfx.n2⟩ hfx.rng (by simp;omega);by_cases ht:(typA x).2.1=0
 ·have her0:er=0:=by
   by_cases h0:er=0
   ·exact h0
   ·exact absurd ht (her h0)
  subst her0;go_wp2_with fail;refine c3.mono ?_;intro e w3 h3;have h3:=h3.ok ht;clear c3;generalize ofE x []=p at *;obtain⟨ap,cp,rfl,S3,b3⟩:=h3;have B3:=B2.trans (b3.mono B2.size);clear p0 p1 p2 p3 p4 pf b1 b2 b3 B2 S2 X2 S1 hfx ht her;have b4:Below w3.heap.size w3 (w3.alloc (.cells #[.int .i64 p.k,.int .i64 p.n,stv p.nm,.slice ap p.kids.len cp,.slice none 0 0] 37)):=(Below.refl _ w3).alloc (Nat.le_refl _) _;have X4:(w3.alloc (.cells #[.int .i64 p.k,.int .i64 p.n,stv p.nm,.slice ap p.kids.len cp,.slice none 0 0] 37)).heap[w3.heap.size]?=some (.cells #[.int .i64 p.k,.int .i64 p.n,stv p.nm,.slice ap p.kids.len cp,.slice none 0 0] 37 (0,0)):=heap_alloc_new w3 _;have B4:=B3.trans (b4.mono B3.size);have S4:=SnA.below S3.all b4;rw[plV_out];go_upto_region 3 with fail;generalize w3.alloc (.cells #[.int .i64 p.k,.int .i64 p.n,stv p.nm,.slice ap p.kids.len cp,.slice none 0 0] 37)=w4 at *;generalize w3.heap.size=bp at *;obtain⟨p0,p1,p2,p3,p4,pf⟩:=box5 X4;have c5:=foldPlans_walk p ap cp (.slice none 0 0) [] w4 (by have:=hfp.len;unfold maxLen;omega) (Fs.short_wide hfp.sh) (fun _=>⟨hfp,hrp⟩) S4 ⟨none,0,rfl,.inl rfl⟩ (by simp) (hW.below B4);rw[plV_out] at c5;go_wp2_with fail;refine c5.mono ?_;rintro e w5 ⟨rfl,b5⟩;have B5:=B4.trans (b5.mono B4.size);clear c5 p0 p1 p2 p3 p4 pf X4 S4 B4 b5;go_wp2;go_ret;exact⟨rfl,B5⟩
 ·go_wp2_with fail;refine c3.mono ?_;intro e w3 h3;obtain⟨rfl,b3⟩:=h3.not ht;have B3:=B2.trans (b3.mono B2.size);clear c3 p0 p1 p2 p3 p4 pf b1 b2 b3 B2 S2 X2 S1 hfx ht her hfp hrp;have b4:Below w3.heap.size w3 (w3.alloc (.cells #[.int .i64 0,.int .i64 0,.string ⟨#[]⟩,.slice none 0 0,.slice none 0 0] 37)):=(Below.refl _ w3).alloc (Nat.le_refl _) _;have B4:=B3.trans (b4.mono B3.size);go_upto_region 3 with fail;generalize w3.alloc (.cells #[.int .i64 0,.int .i64 0,.string ⟨#[]⟩,.slice none 0 0,.slice none 0 0] 37)=w4 at *;generalize w3.heap.size=bp at *;have c5:=awakef_r w4 (hW.below B4);have hgd:((er:Int) != 0)=true\/((er:Int) != 0)=false:=by cases h:((er:Int) != 0);exact .inr rfl;exact .inl rfl
  rcases hgd with h0|h0
  all_goals (
   go_wp2_with fail;refine c5.mono ?_;rintro e w5 ⟨rfl,b5⟩;have B5:=B4.trans (b5.mono B4.size);clear c5 B4 b5;go_wp2;go_ret;exact⟨rfl,B5⟩)
theorem ownK:ownKnob Tryz.prog.godebug=none:=by kernel_rfl
theorem gWd : Tryz.prog.globalNamed "isthmus/lex.words" = some 1 := by kernel_rfl
theorem gWdType:(Tryz.prog.globals[1]?).map (·.type)=some 194:=by kernel_rfl
theorem cellsWd:Tryz.prog.cellsOf 194=27:=by kernel_rfl
theorem cellsStr:Tryz.prog.cellsOf 9=1:=by kernel_rfl
def wordsD:List (DataW Unit):=(List.range 27).map fun j=>.lit (.string (wd j).data.toList)
theorem wordsD_eq:(Rows.laid_isthmus_lex_words:DataW Unit)=.agg wordsD:=by rfl
theorem wordsA_list:wordsA.toList=(List.range 27).map fun j=>Value.string (wd j):=by rfl
theorem words_of_cells {W:World}{fuel:Nat}{cs:List Value}{p:List MemPlace}(h:DataW.trod (fun _=>()) Tryz.prog W 0 (fun _=>true) false fuel 194 cs=some (.agg wordsD,p)):cs=wordsA.toList:=by
 obtain⟨xs,m,_,hx,hl,hlen,hf⟩:=DataW.trod_array Tryz.underlying194 h;rw[cellsWd] at hl;simp only[cellsStr,Nat.mul_one] at hf;simp only[Prod.mk.injEq,DataW.agg.injEq] at hx;rw[wordsA_list];apply List.ext_getElem?;intro i;by_cases hi:i<27
 ·have hfi:=hf i hi;have hxi:xs[i]?=some xs[i]:=List.getElem?_eq_getElem (by omega);rw[hxi] at hfi;obtain⟨s,h1,h2⟩:=DataW.trod_string Tryz.underlying9 hfi;have hc:cs[i]?=some (.string s):=by
   have:=congrArg (·[0]?) h1
   simpa [List.getElem?_take,List.getElem?_drop] using this
  have hd:(xs.map (·.1))[i]?=some (.lit (.string s.data.toList)):=by rw[List.getElem?_map,hxi,h2.1];rfl
  rw[<-hx.1] at hd;unfold wordsD at hd;rw[List.getElem?_map,List.getElem?_range hi] at hd;simp only[Option.map_some,Option.some.injEq,DataW.lit.injEq,Lit.string.injEq] at hd;have hs:=bytes_eq.1 hd;rw[hc,List.getElem?_map,List.getElem?_range hi,<-hs];rfl
 ·rw[List.getElem?_eq_none (by omega),List.getElem?_eq_none (by simp;omega)]
theorem wd_of_laid {W : World} {r : List (String × DataW Unit)} (h : laidMet Tryz.prog (("isthmus/lex.words", Rows.laid_isthmus_lex_words) :: r) W) : Wd W := by
 rw[wordsD_eq] at h;obtain⟨ps,⟨g',t',cs,fuel,p,q,hg',ht',hvar,hd,_,_⟩,_⟩:=h;obtain rfl:=Option.some.inj (gWd.symm.trans hg');obtain rfl:=Option.some.inj (gWdType.symm.trans ht');have hcs:=words_of_cells hd;have hcs':cs=wordsA:=Array.toList_inj.1 hcs;subst hcs';simp only[World.var?,gWd,Option.bind_some] at hvar;split at hvar
 ·rename_i c t fr hh
  cases hvar;exact⟨t,fr,hh⟩
 ·cases hvar
def layCells (cs:Array Value):Obj->Obj
 | .cells _ t frozen=>.cells cs t frozen
 | o=>o
def litCells:DataW Unit->List Value
 | .agg l=>l.map fun d=>match d with | .lit (.int k z)=>Value.int k z|_=>.nilIface
 | _=>[]
abbrev synS:ByteArray:=⟨#[105,110,118,97,108,105,100,32,115,121,110,116,97,120]⟩
abbrev rngS:ByteArray:=⟨#[118,97,108,117,101,32,111,117,116,32,111,102,32,114,97,110,103,101]⟩
def lowB (P:Program):Nat:=(World.holding P default ⟨#[],#[],[]⟩).heap.size
def laidWorld (P:Program)(os:Os):World :=
 let w0:=World.holding P os ⟨#[.cells #[.string synS] 270,.cells #[.string rngS] 270],#[],[]⟩
 { w0 with heap:=(((((w0.heap.modify 7 (layCells (litCells Rows.laid_math_bits_deBruijn32tab).toArray)).modify 8 (layCells (litCells Rows.laid_math_bits_deBruijn64tab).toArray)).modify 6 (layCells (litCells Rows.laid_internal_strconv_uint64pow10).toArray)).modify 1 (layCells wordsA)).modify 4 (layCells #[.iface 268 (.pointer (some ⟨lowB P,0,none⟩))])).modify 5 (layCells #[.iface 268 (.pointer (some ⟨lowB P+1,0,none⟩))]) }
end Go.Proofs.YtaihhnlfcndecaaGreatDoor
