import Derived.Test.YtbjdkekhnajafaaGreatDoorDocH
import Derived.SizedLaws
import Derived.Stop.LaidErr
import Derived.ShutString
import Derived.Deep.DeepHandedRow
set_option maxRecDepth 100000
set_option maxHeartbeats 8000000
namespace Go.Proofs.YtbjdkekhnajafaaGreatDoor
open Go.ChangeShapes Go.WideShapes Go.ChangeAt Go.RowKit
set_option linter.unusedVariables false
set_option linter.unusedSimpArgs false
structure EmGd (w:World)(cells:List Int)(e:Ex)(x0 x1 x2:Option Addr)(n0 n1 n2:Nat):Prop where
 kd:kindP cells e≠0
 wl:(emA cells e).ws.length<=32768
 ms:(emA cells e).mes<=100000000
 ok:∀ x ∈ (emA cells e).ws,x.ok
 l0:n0=(emA cells e).ws.length
 l1:n1=(emA cells e).cs.length
 l2:n2=(emA cells e).ns.length
 ls:EmLs w (emA cells e) x0 x1 x2
theorem EmGd.below {w w':World}{cells:List Int}{e:Ex}{x0 x1 x2:Option Addr}{n0 n1 n2:Nat}(h:EmGd w cells e x0 x1 x2 n0 n1 n2)(B:Below w.heap.size w w'):EmGd w' cells e x0 x1 x2 n0 n1 n2:=⟨h.kd,h.wl,h.ms,h.ok,h.l0,h.l1,h.l2,h.ls.below B⟩
theorem EmOut.any {w w':World}{e:Ex}{cells:List Int}{z:Ending}(h:EmOut w e cells z w'):∃x0 x1 x2 x3 n0 n1 n2 n3 c0 c1 c2 c3 er,z=.returned (.tuple #[.agg #[.slice x0 n0 c0,.slice x1 n1 c1,.slice x2 n2 c2,.slice x3 n3 c3],.int .i64 er])/\Below w.heap.size w w'/\(er=0->EmGd w' cells e x0 x1 x2 n0 n1 n2):=by
 obtain⟨b,h⟩:=h;rcases h with ⟨-,rfl⟩|⟨-,-,rfl⟩|⟨hk,hwl,hdl,hmes,vw,vc,vn,vk,o3,rfl,-,C3⟩
 ·exact⟨_,_,_,_,_,_,_,_,_,_,_,_,_,rfl,b,fun h=>by simp at h⟩
 ·exact⟨_,_,_,_,_,_,_,_,_,_,_,_,_,rfl,b,fun h=>by simp at h⟩
 ·obtain⟨aw,cw,rfl⟩:=C3.ws.form;obtain⟨ac3,cc3,rfl⟩:=C3.cs.form;obtain⟨an,cn,rfl⟩:=C3.ns.form;obtain⟨ak,ck,rfl⟩:=C3.ks.form;exact⟨_,_,_,_,_,_,_,_,_,_,_,_,_,rfl,b,fun _=>⟨hk,hwl,hmes,C3.ok,rfl,rfl,rfl,C3.ws.lse,C3.cs.lse,C3.ns.lse⟩⟩
def ldI (u:Int):Int:=if u / 72057594037927936=13\/u / 72057594037927936=14\/u / 72057594037927936=15\/u / 72057594037927936=24 then u / 268435456 % 268435456 else if u / 72057594037927936=17 then u % 268435456 else -1
theorem leads_c (u:Int)(w:World)(h1:0<=u)(h2:u<18446744073709551616) :
  Calls Tryz.prog 26 #[.int .u64 u] w fun e w'=>e=.returned (.int .i64 (ldI u))/\w'=w:=by
 have c1:=rparts_e u w h1 h2;unfold ldI;generalize u / 72057594037927936=o at c1 ⊢;generalize u / 268435456 % 268435456=x at c1 ⊢;generalize u % 268435456=y at c1 ⊢;clear h1 h2;go_enter Tryz.func26,Tryz.ntmps26;go_wp2_with fail;refine c1.mono ?_;rintro e w1 ⟨rfl,rfl⟩;clear c1;by_cases e1:o=13
 ·subst e1;go_wp2;go_ret;exact⟨rfl,rfl⟩
 by_cases e2:o=14
 ·subst e2;go_wp2;go_ret;exact⟨rfl,rfl⟩
 by_cases e3:o=15
 ·subst e3;go_wp2;go_ret;exact⟨rfl,rfl⟩
 by_cases e4:o=24
 ·subst e4;go_wp2;go_ret;exact⟨rfl,rfl⟩
 by_cases e5:o=17
 ·subst e5;go_wp2;go_ret;exact⟨rfl,rfl⟩
 ·have f1:(o==13)=false:=by simpa using e1
  have f2:(o==14)=false:=by simpa using e2
  have f3:(o==15)=false:=by simpa using e3
  have f4:(o==24)=false:=by simpa using e4
  have f5:(o==17)=false:=by simpa using e5
  go_wp2;go_ret;exact⟨rfl,rfl⟩
def sumE (a b:Ex):Ex:=⟨8,0,[],0,Fs.ex a (one b)⟩
theorem sum_em (a b:Ex):emA [] (sumE a b)=((emE [] b 0 1 (emE [] a 0 0 (em0 []))).lay 6 0 0).lay 0 0 0:=rfl
theorem sum_len (a b:Ex):(sumE a b).kids.len=2:=rfl
theorem sum_fit {a b:Ex}(ha:FitN a)(hb:FitN b):FitN (sumE a b):=⟨by simp[sumE],by rw[sum_len];omega,ha.nm,ha.len,ha.sh,hb.nm,hb.len,hb.sh,trivial⟩
theorem sum_rng {a b:Ex}(na:-9223372036854775808<=a.n/\a.n<=9223372036854775807)(ra:a.kids.rng)(nb:-9223372036854775808<=b.n/\b.n<=9223372036854775807)(rb:b.kids.rng):(sumE a b).kids.rng:=⟨na.1,na.2,ra,nb.1,nb.2,rb,trivial⟩
theorem sum_sn {w:World}{a b:Ex}{x y:Option Addr}(cx cy:Nat)(hx:SnA w a.kids x)(hy:SnA w b.kids y){t:TypeId} :
  SnA (w.alloc (.cells #[.int .i64 a.k,.int .i64 a.n,stv a.nm,.slice x a.kids.len cx,.int .i64 b.k,.int .i64 b.n,stv b.nm,.slice y b.kids.len cy] t)) (sumE a b).kids (some ⟨w.heap.size,0,none⟩):=by
 have B:=b1 w (.cells #[.int .i64 a.k,.int .i64 a.n,stv a.nm,.slice x a.kids.len cx,.int .i64 b.k,.int .i64 b.n,stv b.nm,.slice y b.kids.len cy] t);have hx':=SnA.below hx B;have hy':=SnA.below hy B;have E:=heap_alloc_new w (.cells #[.int .i64 a.k,.int .i64 a.n,stv a.nm,.slice x a.kids.len cx,.int .i64 b.k,.int .i64 b.n,stv b.nm,.slice y b.kids.len cy] t);refine SlN.of (xs:=[.int .i64 a.k,.int .i64 a.n,stv a.nm,.slice x a.kids.len cx]++[.int .i64 b.k,.int .i64 b.n,stv b.nm,.slice y b.kids.len cy]) trivial (by simp) (fun j u hu=>?_) ?_
 ·simp only[World.cell?,E,Nat.zero_add];simpa using hu
 ·exact FcN.app (f:=one a) (g:=one b) (FcN.one cx hx') (FcN.one cy hy')
theorem wo_atJ {l:List Wo}{j:Nat}{x:Wo}(h:l[j]?=some x):(woV l)[j]?=some (.int .u64 (encW x)):=by simp[woV,h]
theorem ei_atJ {l:List Int}{j:Nat}{x:Int}(h:l[j]?=some x):(eiV l)[j]?=some (.int .i64 x):=by simp[eiV,h]
theorem es_atJ {l:List (List UInt8)}{j:Nat}{x:List UInt8}(h:l[j]?=some x):(esV l)[j]?=some (stv x):=by simp[esV,h]
theorem wparts (x:Wo)(hx:x.ok)(w:World):Calls Tryz.prog 27 #[.int .u64 (encW x)] w fun e w'=>e=.returned (.tuple #[.int .i64 (x.op:Nat),.int .i64 (x.a:Nat),.int .i64 (x.b:Nat)])/\w'=w:=by
 have h:=rparts_e (encW x) w (encW_bd hx).1 (encW_bd hx).2;obtain⟨h1,h2,h3⟩:=encW_parts hx;rw[h1,h2,h3] at h;exact h
def ldW (x:Wo):Int:=if x.op=13\/x.op=14\/x.op=15\/x.op=24 then (x.a:Int) else if x.op=17 then (x.b:Int) else -1
theorem wleads (x:Wo)(hx:x.ok)(w:World):Calls Tryz.prog 26 #[.int .u64 (encW x)] w fun e w'=>e=.returned (.int .i64 (ldW x))/\w'=w:=by
 have h:=leads_c (encW x) w (encW_bd hx).1 (encW_bd hx).2;obtain⟨h1,h2,h3⟩:=encW_parts hx;have e:ldI (encW x)=ldW x:=by
  unfold ldI ldW;rw[h1,h2,h3]
  congr 1
  ·apply propext;constructor
   ·intro h;omega
   ·intro h;omega
  ·congr 1
   apply propext;omega
 rw[e] at h;exact h
structure JW (wx:World)(r1 r2 r4:Nat)(A B Z:Em)(ax0 ax1 ax2:Option Addr)(ac0:Nat)(dx0 dx1 dx2:Option Addr)(dc0 dc1 dc2:Nat)(zx0 zx1 zx2:Option Addr)(zc0 zc1 zc2 lA lB lBc lBn lZ lZc lZn:Nat):Prop where
 a0:wx.cell? ⟨r1,0,none⟩=some (.slice ax0 lA ac0)
 d0:wx.cell? ⟨r2,0,none⟩=some (.slice dx0 lB dc0)
 d1:wx.cell? ⟨r2,1,none⟩=some (.slice dx1 lBc dc1)
 d2:wx.cell? ⟨r2,2,none⟩=some (.slice dx2 lBn dc2)
 z0:wx.cell? ⟨r4,0,none⟩=some (.slice zx0 lZ zc0)
 z1:wx.cell? ⟨r4,1,none⟩=some (.slice zx1 lZc zc1)
 z2:wx.cell? ⟨r4,2,none⟩=some (.slice zx2 lZn zc2)
 la:EmLs wx A ax0 ax1 ax2
 lb:EmLs wx B dx0 dx1 dx2
 lz:EmLs wx Z zx0 zx1 zx2
theorem cell4_of {w:World}{b:Nat}{x0 x1 x2 x3:Value}{t:TypeId}(h:w.heap[b]?=some (.cells #[x0,x1,x2,x3] t (0,0))):w.cell? ⟨b,0,none⟩=some x0/\w.cell? ⟨b,1,none⟩=some x1/\w.cell? ⟨b,2,none⟩=some x2:=by
 refine⟨?_,?_,?_⟩<;>(rw[cell_of_row w b _ _ t (0,0) h];rfl)
theorem emitJoins_walk (e:Ex)(ao:Option Addr)(cap:Nat)(cv:Value)(cells:List Int)(e':Ex)(ao':Option Addr)(cap':Nat)(cv':Value)(cells':List Int)(w:World)
  (hlen:e.kids.len<=maxLen) (hwd:e.kids.wide) (hfit:e.kids.size<=100000000->FitN e/\(-9223372036854775808<=e.n/\e.n<=9223372036854775807)/\e.kids.rng) (S:SnA w e.kids ao) (hc:InA w cv cells) (hcl:cells.length<=maxLen)
  (hlen':e'.kids.len<=maxLen) (hwd':e'.kids.wide) (hfit':e'.kids.size<=100000000->FitN e'/\(-9223372036854775808<=e'.n/\e'.n<=9223372036854775807)/\e'.kids.rng) (S':SnA w e'.kids ao') (hc':InA w cv' cells') (hcl':cells'.length<=maxLen) (hW:Wd w) (hT:EmTab w) :
  Calls Tryz.prog 7 #[plV e ao cap cv,plV e' ao' cap' cv'] w fun x w'=>x=.returned (.bool true)/\Below w.heap.size w w':=by
 obtain⟨ac,cc,hcv,hx⟩:=hc;have hc:InA w cv cells:=⟨ac,cc,hcv,hx⟩
 subst hcv;clear hx;obtain⟨ad,cd,hcv,hx⟩:=hc';have hc':InA w cv' cells':=⟨ad,cd,hcv,hx⟩
 subst hcv;clear hx;obtain⟨g,hg⟩:∃g,g=w.heap.size:=⟨_,rfl⟩
 obtain⟨w0,hw0⟩:∃w0,w0=(w.alloc (.cells #[.int .i64 e.k,.int .i64 e.n,stv e.nm,.slice ao e.kids.len cap,.slice ac cells.length cc] 37)).alloc (.cells #[.int .i64 e'.k,.int .i64 e'.n,stv e'.nm,.slice ao' e'.kids.len cap',.slice ad cells'.length cd] 37):=⟨_,rfl⟩
 obtain⟨P0,Q0,z0,B0⟩:=al2 w (.cells #[.int .i64 e.k,.int .i64 e.n,stv e.nm,.slice ao e.kids.len cap,.slice ac cells.length cc] 37) (.cells #[.int .i64 e'.k,.int .i64 e'.n,stv e'.nm,.slice ao' e'.kids.len cap',.slice ad cells'.length cd] 37);rw[<-hw0,<-hg] at P0 Q0 z0 B0;have b0:Below w.heap.size w w0:=by rw[<-hg];exact B0
 -- what stands of the two boxes in whatever world that comes
 have KP:Hid (∀ wx,Below w0.heap.size w0 wx->(wx.cell? ⟨g,0,none⟩=some (.int .i64 e.k)/\wx.cell? ⟨g,1,none⟩=some (.int .i64 e.n)/\wx.cell? ⟨g,2,none⟩=some (stv e.nm)/\wx.cell? ⟨g,3,none⟩=some (.slice ao e.kids.len cap)/\wx.cell? ⟨g,4,none⟩=some (.slice ac cells.length cc))/\(wx.cell? ⟨g+1,0,none⟩=some (.int .i64 e'.k)/\wx.cell? ⟨g+1,1,none⟩=some (.int .i64 e'.n)/\wx.cell? ⟨g+1,2,none⟩=some (stv e'.nm)/\wx.cell? ⟨g+1,3,none⟩=some (.slice ao' e'.kids.len cap')/\wx.cell? ⟨g+1,4,none⟩=some (.slice ad cells'.length cd))/\SnA wx e.kids ao/\SnA wx e'.kids ao'/\InA wx (.slice ac cells.length cc) cells/\InA wx (.slice ad cells'.length cd) cells'/\Wd wx/\EmTab wx/\Below g w wx):=fun wx b=>by
  have bb:=b0.trans (b.mono b0.size);exact⟨cells5e ((b.block g (by omega)).trans P0),cells5e ((b.block (g+1) (by omega)).trans Q0),SnA.below S bb,SnA.below S' bb,hc.below bb,hc'.below bb,hW.below bb,hT.below bb,by rw[hg];exact bb⟩
 clear S S' hc hc' hW hT P0 Q0 B0 b0;obtain⟨⟨p0,p1,p2,p3,p4⟩,⟨q0,q1,q2,q3,q4⟩,S0,T0,I0,J0,W0,E0,Z0⟩:=KP.out w0 (Below.refl _ _);have c1:=heavy14_c e ao cap 0 _ cells w0 I0 hcl hlen hwd S0;rw[plV_out] at c1;rw[plV_out,plV_out];have HG:=Lib.hid hg;clear hg z0;go_enter Tryz.func7,Tryz.ntmps7;go_upto_region 1 with fail;rw[<-hw0,<-HG.out];clear hw0;go_wp2_with fail;refine c1.mono ?_;rintro x w1 ⟨rfl,b1'⟩;clear c1 p0 p1 p2 p3 p4 q0 q1 q2 q3 q4 S0 T0 I0 J0 W0 E0 Z0;obtain⟨⟨p0,p1,p2,p3,p4⟩,⟨q0,q1,q2,q3,q4⟩,S0,T0,I0,J0,W0,E0,Z0⟩:=KP.out w1 b1';cases hh:hvP e cells with
 | true =>
  clear hh;go_wp2;go_ret;exact⟨rfl,by rw[<-HG.out];exact Z0⟩
 | false =>
 obtain⟨hcl2,hsz⟩:=hvE_not hh;obtain⟨hf,hn,hr⟩:=hfit (by omega);clear hh hfit hcl hlen hwd;have c2:=heavy14_c e' ao' cap' 0 _ cells' w1 J0 hcl' hlen' hwd' T0;rw[plV_out] at c2;go_wp2_with fail;refine c2.mono ?_;rintro x w2 ⟨rfl,b2'⟩;have B2:Below w0.heap.size w0 w2:=b1'.trans (b2'.mono b1'.size);clear c2 p0 p1 p2 p3 p4 q0 q1 q2 q3 q4 S0 T0 I0 J0 W0 E0 Z0;obtain⟨⟨p0,p1,p2,p3,p4⟩,⟨q0,q1,q2,q3,q4⟩,S0,T0,I0,J0,W0,E0,Z0⟩:=KP.out w2 B2;cases hh:hvP e' cells' with
 | true =>
  clear hh;go_wp2;go_ret;exact⟨rfl,by rw[<-HG.out];exact Z0⟩
 | false =>
 obtain⟨hcl2',hsz'⟩:=hvE_not hh;obtain⟨hf',hn',hr'⟩:=hfit' (by omega);have HOK:Hid (kindP cells' e'≠0->okE cells'.length e'):=fun h=>(kindP_ok h hn' hr').1;clear hh hfit' hcl' hlen' hwd' hsz hsz' b1' b2';have c3:=awakee_r w2 W0 E0;go_upto_region 6 with (first|(go_at_call 15;refine c3.mono ?_;rintro x w3 ⟨rfl,b3⟩))
 have B3:Below w0.heap.size w0 w3:=B2.trans (b3.mono B2.size);clear c3 p0 p1 p2 p3 p4 q0 q1 q2 q3 q4 S0 T0 I0 J0 W0 E0 Z0 B2 b3;go_cut [6] (fun v6 wx=>∃o,v6=.bool o/\(o=true->cells=[])/\Below w0.heap.size w0 wx)
 case first =>
  obtain⟨⟨p0,p1,p2,p3,p4⟩,⟨q0,q1,q2,q3,q4⟩,S0,T0,I0,J0,W0,E0,Z0⟩:=KP.out w3 B3;have c4:=kind14_c e ao cap _ cells w3 hf I0 (by omega) S0;rw[plV_out] at c4;go_wp2_with fail;refine c4.mono ?_;rintro x w4 ⟨rfl,b4⟩;have B4:Below w0.heap.size w0 w4:=B3.trans (b4.mono B3.size);clear c4 p0 p1 p2 p3 p4 q0 q1 q2 q3 q4 S0 T0 I0 J0 W0 E0 Z0;obtain⟨⟨p0,p1,p2,p3,p4⟩,⟨q0,q1,q2,q3,q4⟩,S0,T0,I0,J0,W0,E0,Z0⟩:=KP.out w4 B4;clear S0 T0 I0 J0 W0 E0 Z0;by_cases h1:kindP cells e=1
  ·rw[h1];by_cases h2:cells.length=0
   ·have h3:((cells.length:Int)==0)=true:=by simp[h2]
    have h4:Hid (cells=[]):=List.eq_nil_of_length_eq_zero h2;clear h2;go_wp2;go_meet;exact⟨_,rfl,fun _=>h4.out,B4⟩
   ·have h3:((cells.length:Int)==0)=false:=by simpa using h2
    go_wp2;go_meet;exact⟨_,rfl,fun h=>by simp at h,B4⟩
  ·have h3:(kindP cells e==1)=false:=by simpa using h1
   go_wp2;go_meet;exact⟨_,rfl,fun h=>by simp at h,B4⟩
 case rest =>
 obtain⟨o1,rfl,ho1,B4⟩:=hcut;generalize wc=w4 at B4 ⊢;clear B3;go_upto_region 7 with fail;go_cut [7] (fun v7 wx=>∃o,v7=.bool o/\(o=true->cells'=[])/\Below w0.heap.size w0 wx)
 case first =>
  obtain⟨⟨p0,p1,p2,p3,p4⟩,⟨q0,q1,q2,q3,q4⟩,S0,T0,I0,J0,W0,E0,Z0⟩:=KP.out w4 B4;have c4:=kind14_c e' ao' cap' _ cells' w4 hf' J0 (by omega) T0;rw[plV_out] at c4;go_wp2_with fail;refine c4.mono ?_;rintro x w5 ⟨rfl,b5⟩;have B5:Below w0.heap.size w0 w5:=B4.trans (b5.mono B4.size);clear c4 p0 p1 p2 p3 p4 q0 q1 q2 q3 q4 S0 T0 I0 J0 W0 E0 Z0;obtain⟨⟨p0,p1,p2,p3,p4⟩,⟨q0,q1,q2,q3,q4⟩,S0,T0,I0,J0,W0,E0,Z0⟩:=KP.out w5 B5;clear S0 T0 I0 J0 W0 E0 Z0;by_cases h1:kindP cells' e'=1
  ·rw[h1];by_cases h2:cells'.length=0
   ·have h3:((cells'.length:Int)==0)=true:=by simp[h2]
    have h4:Hid (cells'=[]):=List.eq_nil_of_length_eq_zero h2;clear h2;go_wp2;go_meet;exact⟨_,rfl,fun _=>h4.out,B5⟩
   ·have h3:((cells'.length:Int)==0)=false:=by simpa using h2
    go_wp2;go_meet;exact⟨_,rfl,fun h=>by simp at h,B5⟩
  ·have h3:(kindP cells' e'==1)=false:=by simpa using h1
   go_wp2;go_meet;exact⟨_,rfl,fun h=>by simp at h,B5⟩
 case rest =>
 obtain⟨o2,rfl,ho2,B5⟩:=hcut;generalize wc=w5 at B5 ⊢;clear B4;obtain⟨⟨p0,p1,p2,p3,p4⟩,⟨q0,q1,q2,q3,q4⟩,S0,T0,I0,J0,W0,E0,Z0⟩:=KP.out w5 B5;have c6:=emit_c e ao cap _ cells w5 hf hn hr W0 E0 I0 (by omega) S0;rw[plV_out] at c6;go_wp2_with fail;refine c6.mono ?_;intro x w6 h6;obtain⟨ax0,ax1,ax2,ax3,an0,an1,an2,an3,ac0,ac1,ac2,ac3,er,rfl,b6,G6⟩:=h6.any;clear c6 h6 p0 p1 p2 p3 p4 q0 q1 q2 q3 q4 S0 T0 I0 J0 W0 E0 Z0;obtain⟨r1,hr1⟩:∃r1,r1=w6.heap.size:=⟨_,rfl⟩
 obtain⟨w7,hw7⟩:∃w7,w7=w6.alloc (.cells #[.slice ax0 an0 ac0,.slice ax1 an1 ac1,.slice ax2 an2 ac2,.slice ax3 an3 ac3] 42):=⟨_,rfl⟩
 have b7:Below w6.heap.size w6 w7:=by rw[hw7];exact b1 _ _
 have B6:=B5.trans (b6.mono B5.size);have B7:=B6.trans (b7.mono B6.size);have R7:w7.heap[r1]?=some (.cells #[.slice ax0 an0 ac0,.slice ax1 an1 ac1,.slice ax2 an2 ac2,.slice ax3 an3 ac3] 42):=by rw[hw7,hr1];exact heap_alloc_new _ _
 have G7:Hid (er=0->EmGd w7 cells e ax0 ax1 ax2 an0 an1 an2):=fun h=>(G6 h).below b7;have L7:r1<w7.heap.size:=lt_of_block R7;clear G6 b6 b7 B6 B5;obtain⟨⟨p0,p1,p2,p3,p4⟩,⟨q0,q1,q2,q3,q4⟩,S0,T0,I0,J0,W0,E0,Z0⟩:=KP.out w7 B7;have c8:=emit_c e' ao' cap' _ cells' w7 hf' hn' hr' W0 E0 J0 (by omega) T0;rw[plV_out] at c8;have HR1:=Lib.hid hr1;clear hr1;go_upto_region 9 with fail;rw[<-hw7,<-HR1.out];clear hw7;go_wp2_with fail;refine c8.mono ?_;intro x w8 h8;obtain⟨dx0,dx1,dx2,dx3,dn0,dn1,dn2,dn3,dc0,dc1,dc2,dc3,es,rfl,b8,G8⟩:=h8.any;clear c8 h8 p0 p1 p2 p3 p4 q0 q1 q2 q3 q4 S0 T0 I0 J0 W0 E0 Z0;obtain⟨r2,hr2⟩:∃r2,r2=w8.heap.size:=⟨_,rfl⟩
 obtain⟨w9,hw9⟩:∃w9,w9=w8.alloc (.cells #[.slice dx0 dn0 dc0,.slice dx1 dn1 dc1,.slice dx2 dn2 dc2,.slice dx3 dn3 dc3] 42):=⟨_,rfl⟩
 have b9:Below w8.heap.size w8 w9:=by rw[hw9];exact b1 _ _
 have b89:=b8.trans (b9.mono b8.size);have B9:=B7.trans (b89.mono B7.size);have R9:=(b89.block r1 L7).trans R7;have U9:w9.heap[r2]?=some (.cells #[.slice dx0 dn0 dc0,.slice dx1 dn1 dc1,.slice dx2 dn2 dc2,.slice dx3 dn3 dc3] 42):=by rw[hw9,hr2];exact heap_alloc_new _ _
 have G9:Hid (er=0->EmGd w9 cells e ax0 ax1 ax2 an0 an1 an2):=fun h=>(G7.out h).below b89;have H9:Hid (es=0->EmGd w9 cells' e' dx0 dx1 dx2 dn0 dn1 dn2):=fun h=>(G8 h).below b9;have L9:r1<w9.heap.size:=lt_of_block R9;have M9:r2<w9.heap.size:=lt_of_block U9;clear G7 G8 b8 b9 b89 B7 R7 L7;obtain⟨⟨p0,p1,p2,p3,p4⟩,⟨q0,q1,q2,q3,q4⟩,S0,T0,I0,J0,W0,E0,Z0⟩:=KP.out w9 B9;obtain⟨r3,hr3⟩:∃r3,r3=w9.heap.size:=⟨_,rfl⟩
 obtain⟨wA,hwA⟩:∃wA,wA=w9.alloc (.cells #[.int .i64 e.k,.int .i64 e.n,stv e.nm,.slice ao e.kids.len cap,.int .i64 e'.k,.int .i64 e'.n,stv e'.nm,.slice ao' e'.kids.len cap'] 34):=⟨_,rfl⟩
 have bA:Below w9.heap.size w9 wA:=by rw[hwA];exact b1 _ _
 have SA:SnA wA (sumE e e').kids (some ⟨r3,0,none⟩):=by rw[hwA,hr3];exact sum_sn cap cap' S0 T0
 have BA:=B9.trans (bA.mono B9.size);have cB:=emit_c (sumE e e') (some ⟨r3,0,none⟩) 2 (.slice none 0 0) [] wA (sum_fit hf hf') ⟨by show (-9223372036854775808:Int)<=0;decide,by show (0:Int)<=9223372036854775807;decide⟩ (sum_rng hn hr hn' hr') (W0.below bA) (E0.below bA) ⟨none,0,rfl,.inl rfl⟩ (by simp) SA;rw[plV_out] at cB;have HR2:=Lib.hid hr2;have HR3:=Lib.hid hr3;clear hr2 hr3;go_upto_region 10 with fail;rw[<-hw9,<-HR2.out];clear hw9;go_wp2_with fail;rw[<-HR3.out,<-hwA];clear hwA;refine cB.mono ?_;intro x wB hB;obtain⟨zx0,zx1,zx2,zx3,zn0,zn1,zn2,zn3,zc0,zc1,zc2,zc3,et,rfl,bB,GB⟩:=hB.any;clear cB hB p0 p1 p2 p3 p4 q0 q1 q2 q3 q4 S0 T0 I0 J0 W0 E0 Z0 SA;obtain⟨r4,hr4⟩:∃r4,r4=wB.heap.size:=⟨_,rfl⟩
 obtain⟨wC,hwC⟩:∃wC,wC=wB.alloc (.cells #[.slice zx0 zn0 zc0,.slice zx1 zn1 zc1,.slice zx2 zn2 zc2,.slice zx3 zn3 zc3] 42):=⟨_,rfl⟩
 have bC:Below wB.heap.size wB wC:=by rw[hwC];exact b1 _ _
 have bBC:=bB.trans (bC.mono bB.size);have bAC:=bA.trans (bBC.mono bA.size);have BC:=B9.trans (bAC.mono B9.size);have RC:=(bAC.block r1 L9).trans R9;have UC:=(bAC.block r2 M9).trans U9;have VC:wC.heap[r4]?=some (.cells #[.slice zx0 zn0 zc0,.slice zx1 zn1 zc1,.slice zx2 zn2 zc2,.slice zx3 zn3 zc3] 42):=by rw[hwC,hr4];exact heap_alloc_new _ _
 have GC:Hid (er=0->EmGd wC cells e ax0 ax1 ax2 an0 an1 an2):=fun h=>(G9.out h).below bAC;have HC:Hid (es=0->EmGd wC cells' e' dx0 dx1 dx2 dn0 dn1 dn2):=fun h=>(H9.out h).below bAC;have KC:Hid (et=0->EmGd wC [] (sumE e e') zx0 zx1 zx2 zn0 zn1 zn2):=fun h=>(GB h).below bC;have ZC:Hid (Below g w wC):=(KP.out wC BC).2.2.2.2.2.2.2.2;have HR4:=Lib.hid hr4;clear hr4 G9 H9 GB bA bB bC bBC bAC B9 BA R9 U9 L9 M9 BC KP hf hf' hn hn' hr hr' hcl2 hcl2';go_upto_region 11 with fail;rw[<-hwC,<-HR4.out];clear hwC;have HO1:=Lib.hid ho1;have HO2:=Lib.hid ho2;clear ho1 ho2;cases o1 with
 | false =>
  go_wp2;go_ret;exact⟨rfl,by rw[<-HG.out];exact ZC.out⟩
 | true =>
 cases o2 with
 | false =>
  go_wp2;go_ret;exact⟨rfl,by rw[<-HG.out];exact ZC.out⟩
 | true =>
 by_cases h1:er=0
 case neg =>
  have f1:(er != 0)=true:=by simpa using h1
  go_wp2;go_ret;exact⟨rfl,by rw[<-HG.out];exact ZC.out⟩
 by_cases h2:es=0
 case neg =>
  subst h1;have f1:(es != 0)=true:=by simpa using h2
  go_wp2;go_ret;exact⟨rfl,by rw[<-HG.out];exact ZC.out⟩
 by_cases h3:et=0
 case neg =>
  subst h1 h2;have f1:(et != 0)=true:=by simpa using h3
  go_wp2;go_ret;exact⟨rfl,by rw[<-HG.out];exact ZC.out⟩
 subst h1 h2 h3;have gc:=GC.out rfl;have hc:=HC.out rfl;have kc:=KC.out rfl;have e1:cells=[]:=HO1.out rfl;have e2:cells'=[]:=HO2.out rfl;rw[e1] at gc;rw[e2] at hc;have hok:okE 0 e':=by
  have:=HOK.out
  rw[e2] at this;exact this hc.kd
 obtain⟨j1,ja1,jb1,j4,j5,j6⟩:=emjoins e e' _ (sum_em e e') hok;clear GC HC KC HO1 HO2 e1 e2 HOK hok;obtain⟨-,gwl,-,-,gl0,-,-,gls⟩:=gc;obtain⟨-,hwl,-,hokw,hl0,hl1,hl2,hls⟩:=hc;obtain⟨-,kwl,-,kokw,kl0,kl1,kl2,kls⟩:=kc;generalize emA [] e=A at *;generalize emA [] e'=B at *;generalize emA [] (sumE e e')=Z at *;have JJ:Hid (∀ wx,Below wC.heap.size wC wx->JW wx r1 r2 r4 A B Z ax0 ax1 ax2 ac0 dx0 dx1 dx2 dc0 dc1 dc2 zx0 zx1 zx2 zc0 zc1 zc2 an0 dn0 dn1 dn2 zn0 zn1 zn2/\Below g w wx):=fun wx b=>by
  obtain⟨a0,-,-⟩:=cell4_of ((b.block r1 (lt_of_block RC)).trans RC);obtain⟨d0,d1,d2⟩:=cell4_of ((b.block r2 (lt_of_block UC)).trans UC);obtain⟨z0,z1,z2⟩:=cell4_of ((b.block r4 (lt_of_block VC)).trans VC);exact⟨⟨a0,d0,d1,d2,z0,z1,z2,gls.below b,hls.below b,kls.below b⟩,ZC.out.trans (b.mono (by have h1:=ZC.out.size;have h2:=HG.out;omega))⟩
 obtain⟨n,hn⟩:∃n,an0=n+1:=⟨an0-1,by omega⟩
 obtain⟨m,hm⟩:∃m,dn0=m+1:=⟨dn0-1,by omega⟩
 have hzn:zn0=n+m+2:=by omega
 have en:A.ws.length-1=n:=by omega
 rw[en] at j4 j5;have hnI:(an0:Int)-1=(n:Int):=by omega
 have hsI:(n:Int)+(dn0:Int)+1=(zn0:Int):=by omega
 have hb1:(an0:Int)<=32768:=by omega
 have hb2:(dn0:Int)<=32768:=by omega
 have hb3:(zn0:Int)<=32768:=by omega
 have hb0:(1:Int)<=(an0:Int):=by omega
 obtain⟨⟨a0,d0,d1,d2,z0,z1,z2,-,-,-⟩,-⟩:=JJ.out wC (Below.refl _ _)
 -- words
 have HW1:Hid (∀ k,k<n->∃x,A.ws[k]?=some x/\Z.ws[k]?=some x):=fun k hk=>by
  have hlk:k<A.ws.length:=by omega
  exact⟨A.ws[k],List.getElem?_eq_getElem hlk,(j4 k hk).trans (List.getElem?_eq_getElem hlk)⟩
 have HW2:Hid (∀ k,k<m->∃x y,B.ws[k]?=some x/\Z.ws[n+k]?=some y/\x.ok/\y.ok/\Wrj n B Z False x y):=fun k hk=>by
  have hlk:k<B.ws.length:=by omega
  obtain⟨y,hy,hw⟩:=j5 k _ (by omega) (List.getElem?_eq_getElem hlk);exact⟨B.ws[k],y,List.getElem?_eq_getElem hlk,hy,hokw _ (List.getElem_mem hlk),kokw _ (List.mem_of_getElem? hy),hw⟩
 have HW3:Hid (Z.ws[n+m]?=some ⟨6,0,0⟩):=by
  show _=_;rw[<-j6]
  congr 1
  omega
 have HL:Hid (an0=n+1/\dn0=m+1/\zn0=n+m+2/\dn1=B.cs.length/\dn2=B.ns.length/\zn1=Z.cs.length/\zn2=Z.ns.length):=⟨hn,hm,hzn,hl1,hl2,kl1,kl2⟩
 clear RC UC VC ZC gls hls kls j1 ja1 jb1 j4 j5 j6 gwl hwl kwl gl0 hl0 hl1 hl2 kl0 kl1 kl2 hokw kokw en hn hm hzn;go_wp2_with fail;go_loopw [15] (fun v wr=>∃k:Nat,v=.int .i64 (k:Nat)/\k<=n/\Below wC.heap.size wC wr) (fun v _=>n-(intOf v).toNat)
 case atStart=>exact⟨0,by go_num,by omega,Below.refl _ _⟩
 case round =>
  clear a0 d0 d1 d2 z0 z1 z2;obtain⟨k,rfl,hk,BR⟩:=hrel;obtain⟨⟨a0,d0,d1,d2,z0,z1,z2,LA,LB,LZ⟩,BG⟩:=JJ.out wr BR;obtain⟨q1,q2,q3,-⟩:=HL.out;by_cases hlt:k<n
  ·as_aux_lemma =>
    have hkI:(k:Int)<(n:Int):=by omega
    have hkA:(k:Int)<(an0:Int):=by omega
    have hkZ:(k:Int)<(zn0:Int):=by omega
    obtain⟨x,hx,hz⟩:=HW1.out k hlt;obtain⟨b1,e1,x1⟩:=LA.ws.at (wo_atJ hx);obtain⟨b2,e2,x2⟩:=LZ.ws.at (wo_atJ hz);rw[e1] at a0;rw[e2] at z0;generalize encW x=u at x1 x2;clear LA LB LZ BG q1 q2 q3 hx hz e1 e2 hnI hsI;go_wp2_with fail
    go_quiet (fail)
    go_wp2;go_roundw
    case rel=>(try ((repeat apply Exists.intro);refine⟨?_,rfl⟩));exact⟨k+1,by go_num,by omega,bdr BR _⟩
    case measure=>simp[intOf];omega
  ·have hkI:¬(k:Int)<(n:Int):=by omega
   clear LA LB LZ BG q1 q2 q3 hnI hsI;go_wp2_with fail;go_loopw [16] (fun v wr=>∃k:Nat,v=.int .i64 (k:Nat)/\k<=m/\Below wC.heap.size wC wr) (fun v _=>m-(intOf v).toNat)
   case atStart=>exact⟨0,by go_num,by omega,BR⟩
   case round =>
    clear a0 d0 d1 d2 z0 z1 z2 hlt hkI hk BR;obtain⟨k,rfl,hk,BR⟩:=hrel;obtain⟨⟨a0,d0,d1,d2,z0,z1,z2,LA,LB,LZ⟩,BG⟩:=JJ.out wr BR;obtain⟨q1,q2,q3,q4,q5,q6,q7⟩:=HL.out;have hnb:(n:Int)<=32768:=by omega
    have hkb:(k:Int)<=32768:=by omega
    by_cases hlt:k<m
    ·have hkI:(k:Int)+1<(dn0:Int):=by omega
     have hkI2:(k:Int)<(dn0:Int):=by omega
     have hkZ:(n:Int)+(k:Int)<(zn0:Int):=by omega
     obtain⟨nk,hnk⟩:∃nk,nk=n+k:=⟨_,rfl⟩
     have hkZ2:(n:Int)+(k:Int)=(nk:Int):=by omega
     have hkZ3:(nk:Int)<(zn0:Int):=by omega
     obtain⟨x,y,hx,hy,okx,oky,W⟩:=HW2.out k hlt;have HP1:=wparts x okx;have HP2:=wparts y oky;have HLd:=wleads x okx;obtain⟨b1,e1,x1⟩:=LB.ws.at (wo_atJ hx);obtain⟨b2,e2,x2⟩:=LZ.ws.at (wo_atJ hy);rw[e1] at d0;rw[e2] at z0;rw[<-hnk] at x2;clear hnk hkZ e1 e2;generalize encW x=u at x1 HP1 HLd;generalize encW y=u2 at x2 HP2;obtain⟨op1,xa,xb1⟩:=x;obtain⟨op,ya,xb⟩:=y;obtain⟨w1,w2,w3,w4,w5,w6⟩:=W;simp only at w1 w2 w3 w4 w5 w6 HP1 HP2;subst w1;subst w2;obtain⟨-,okx2,-⟩:=okx;obtain⟨-,oky2,-⟩:=oky;simp only at okx2 oky2;have hxb:(xa:Int)<=268435455:=by omega
     have hyb:(ya:Int)<=268435455:=by omega
     clear hx hy;have JE:=Lib.hid BG;have hdr:Hid (∀ q,Below wC.heap.size wC (wr.drewN q)):=fun q=>bdr BR q;by_cases hL:op=13\/op=14\/op=15\/op=24
     ·as_aux_lemma =>
       have hld:ldW ⟨op,xa,xb⟩=(xa:Int):=by unfold ldW;rw[if_pos hL]
       rw[hld] at HLd;have hya:ya=xa+n:=w3 id hL;subst hya;have n1:((op:Int)==1)=false:=beq_eq_false_iff_ne.2 (by omega);have n2:((op:Int)==2)=false:=beq_eq_false_iff_ne.2 (by omega);have n3:((op:Int)==21)=false:=beq_eq_false_iff_ne.2 (by omega);have hz1:(xa:Int)+(n:Int)=((xa+n:Nat):Int):=by omega
       have hz2:(0:Int)<=(xa:Int):=by omega
       clear w3 w4 w5 w6 LB LZ LA hL q1 q2 q3 q4 q5 q6 q7 BG hld;generalize xa+n=ya at *;go_upto_region 29 with (first|(go_at_call 26;refine(HLd _).mono ?_;rintro e3 w3 ⟨rfl,rfl⟩)|(go_at_call 27;refine(HP1 _).mono ?_;rintro e3 w3 ⟨rfl,rfl⟩;have HP1:=True.intro)|(go_at_call 27;refine(HP2 _).mono ?_;rintro e3 w3 ⟨rfl,rfl⟩))
       go_quiet (fail)
       go_wp2;go_roundw
       case rel=>(try ((repeat apply Exists.intro);refine⟨?_,rfl⟩));exact⟨k+1,by go_num,by omega,hdr.out _⟩
       case measure=>simp[intOf];omega
     have hld:ldW ⟨op,xa,xb⟩=-1:=by unfold ldW;rw[if_neg hL,if_neg w6]
     rw[hld] at HLd;by_cases hC:op=1\/op=2
     ·as_aux_lemma =>
       obtain⟨cc,hb,hz⟩:=w4 hC;have hxl:(xa:Int)<(dn1:Int):=by have:=(List.getElem?_eq_some_iff.1 hb).1;omega
       have hyl:(ya:Int)<(zn1:Int):=by have:=(List.getElem?_eq_some_iff.1 hz).1;omega
       obtain⟨b3,e3,x3⟩:=LB.cs.at (ei_atJ hb);obtain⟨b4,e4,x4⟩:=LZ.cs.at (ei_atJ hz);rw[e3] at d1;rw[e4] at z1;clear e3 e4;clear w3 w4 w5 w6 LB LZ LA hL q1 q2 q3 q4 q5 q6 q7 BG hld hb hz;rcases hC with rfl|rfl
       all_goals
        go_upto_region 29 with (first|(go_at_call 26;refine(HLd _).mono ?_;rintro e3 w3 ⟨rfl,rfl⟩)|(go_at_call 27;refine(HP1 _).mono ?_;rintro e3 w3 ⟨rfl,rfl⟩;have HP1:=True.intro)|(go_at_call 27;refine(HP2 _).mono ?_;rintro e3 w3 ⟨rfl,rfl⟩))
        go_quiet (fail)
        go_wp2;go_roundw
        case rel=>(try ((repeat apply Exists.intro);refine⟨?_,rfl⟩));exact⟨k+1,by go_num,by omega,hdr.out _⟩
        case measure=>simp[intOf];omega
     by_cases hN:op=21
     ·as_aux_lemma =>
       subst hN;obtain⟨cc,hb,hz⟩:=w5 rfl;have hxl:(xa:Int)<(dn2:Int):=by have:=(List.getElem?_eq_some_iff.1 hb).1;omega
       have hyl:(ya:Int)<(zn2:Int):=by have:=(List.getElem?_eq_some_iff.1 hz).1;omega
       obtain⟨b3,e3,x3⟩:=LB.ns.at (es_atJ hb);obtain⟨b4,e4,x4⟩:=LZ.ns.at (es_atJ hz);rw[e3] at d2;rw[e4] at z2;clear e3 e4;unfold stv at x3 x4;clear w3 w4 w5 w6 LB LZ LA hL q1 q2 q3 q4 q5 q6 q7 BG hld hb hz hC;go_upto_region 29 with (first|(go_at_call 26;refine(HLd _).mono ?_;rintro e3 w3 ⟨rfl,rfl⟩)|(go_at_call 27;refine(HP1 _).mono ?_;rintro e3 w3 ⟨rfl,rfl⟩;have HP1:=True.intro)|(go_at_call 27;refine(HP2 _).mono ?_;rintro e3 w3 ⟨rfl,rfl⟩))
       go_quiet (fail)
       go_wp2;go_roundw
       case rel=>(try ((repeat apply Exists.intro);refine⟨?_,rfl⟩));exact⟨k+1,by go_num,by omega,hdr.out _⟩
       case measure=>simp[intOf];omega
     ·as_aux_lemma =>
       have n1:((op:Int)==1)=false:=beq_eq_false_iff_ne.2 (by omega);have n2:((op:Int)==2)=false:=beq_eq_false_iff_ne.2 (by omega);have n3:((op:Int)==21)=false:=beq_eq_false_iff_ne.2 (by omega);clear w3 w4 w5 w6 LB LZ LA hL q1 q2 q3 q4 q5 q6 q7 BG hld hC hN;go_upto_region 29 with (first|(go_at_call 26;refine(HLd _).mono ?_;rintro e3 w3 ⟨rfl,rfl⟩)|(go_at_call 27;refine(HP1 _).mono ?_;rintro e3 w3 ⟨rfl,rfl⟩;have HP1:=True.intro)|(go_at_call 27;refine(HP2 _).mono ?_;rintro e3 w3 ⟨rfl,rfl⟩))
       go_quiet (fail)
       go_wp2;go_roundw
       case rel=>(try ((repeat apply Exists.intro);refine⟨?_,rfl⟩));exact⟨k+1,by go_num,by omega,hdr.out _⟩
       case measure=>simp[intOf];omega
    ·as_aux_lemma =>
      have hkI:¬(k:Int)+1<(dn0:Int):=by omega
      obtain⟨b2,e2,x2⟩:=LZ.ws.at (wo_atJ HW3.out);rw[e2] at z0;clear e2;have HP3:=wparts ⟨6,0,0⟩ ⟨by simp,by simp,by simp⟩;have hz2:(zn0:Int)-2=((n+m:Nat):Int):=by omega
      have hz3:((n+m:Nat):Int)<(zn0:Int):=by omega
      have hz4:(0:Int)<=((n+m:Nat):Int):=by omega
      have JE:=Lib.hid BG;generalize encW ⟨6,0,0⟩=u6 at *;generalize n+m=nm at *;clear LA LB LZ q1 q2 q3 q4 q5 q6 q7 BG hlt;go_wp2_with (first|(go_at_call 27;refine(HP3 _).mono ?_;rintro e3 w3 ⟨rfl,rfl⟩));go_ret;exact⟨by first|rfl|simp,by rw[<-HG.out];exact JE.out⟩
theorem ownK:ownKnob Tryz.prog.godebug=none:=by kernel_rfl
theorem laidOut:laidOutB Tryz.prog=true:=by kernel_rfl
theorem cellsInt:Tryz.prog.cellsOf 3=1:=by kernel_rfl
theorem bd_i64 {a:Int}(h:(Lit.int .i64 a).wf=true):-9223372036854775808<=a/\a<=9223372036854775807:=by
 simpa [Lit.wf,IntKind.min,IntKind.max,IntKind.signed,IntKind.bits] using h
theorem gWd : Tryz.prog.globalNamed "isthmus/lex.words" = some 3 := by kernel_rfl
theorem gWdType:(Tryz.prog.globals[3]?).map (·.type)=some 270:=by kernel_rfl
theorem cellsWd:Tryz.prog.cellsOf 270=27:=by kernel_rfl
theorem cellsStr:Tryz.prog.cellsOf 9=1:=by kernel_rfl
def wordsD:List (DataW Unit):=(List.range 27).map fun j=>.lit (.string (wd j).data.toList)
theorem wordsD_eq:(Rows.laid_isthmus_lex_words:DataW Unit)=.agg wordsD:=by rfl
theorem wordsA_list:wordsA.toList=(List.range 27).map fun j=>Value.string (wd j):=by rfl
theorem words_of_cells {W:World}{fuel:Nat}{cs:List Value}{p:List MemPlace}(h:DataW.trod (fun _=>()) Tryz.prog W 0 (fun _=>true) false fuel 270 cs=some (.agg wordsD,p)):cs=wordsA.toList:=by
 obtain⟨xs,m,_,hx,hl,hlen,hf⟩:=DataW.trod_array Tryz.underlying270 h;rw[cellsWd] at hl;simp only[cellsStr,Nat.mul_one] at hf;simp only[Prod.mk.injEq,DataW.agg.injEq] at hx;rw[wordsA_list];apply List.ext_getElem?;intro i;by_cases hi:i<27
 ·have hfi:=hf i hi;have hxi:xs[i]?=some xs[i]:=List.getElem?_eq_getElem (by omega);rw[hxi] at hfi;obtain⟨s,h1,h2⟩:=DataW.trod_string Tryz.underlying9 hfi;have hc:cs[i]?=some (.string s):=by
   have:=congrArg (·[0]?) h1
   simpa [List.getElem?_take,List.getElem?_drop] using this
  have hd:(xs.map (·.1))[i]?=some (.lit (.string s.data.toList)):=by rw[List.getElem?_map,hxi,h2.1];rfl
  rw[<-hx.1] at hd;unfold wordsD at hd;rw[List.getElem?_map,List.getElem?_range hi] at hd;simp only[Option.map_some,Option.some.injEq,DataW.lit.injEq,Lit.string.injEq] at hd;have hs:=bytes_eq.1 hd;rw[hc,List.getElem?_map,List.getElem?_range hi,<-hs];rfl
 ·rw[List.getElem?_eq_none (by omega),List.getElem?_eq_none (by simp;omega)]
theorem wd_of_laid {W : World} {r : List (String × DataW Unit)} (h : laidMet Tryz.prog (("isthmus/lex.words", Rows.laid_isthmus_lex_words) :: r) W) : Wd W := by
 rw[wordsD_eq] at h;obtain⟨ps,⟨g',t',cs,fuel,p,q,hg',ht',hvar,hd,_,_⟩,_⟩:=h;obtain rfl:=Option.some.inj (gWd.symm.trans hg');obtain rfl:=Option.some.inj (gWdType.symm.trans ht');have hcs:=words_of_cells hd;have hcs':cs=wordsA:=Array.toList_inj.1 hcs;subst hcs';simp only[World.var?,gWd,Option.bind_some] at hvar;split at hvar
 ·rename_i c t fr hh
  cases hvar;exact⟨t,fr,hh⟩
 ·cases hvar
def layCells (cs:Array Value):Obj->Obj
 | .cells _ t frozen=>.cells cs t frozen
 | o=>o
def lowB (P:Program):Nat:=(World.holding P default ⟨#[],#[],[]⟩).heap.size
theorem field_cells {W:World}{m:Nat}{l:List Value}{a b:Int}{p:List MemPlace}
  (h:DataW.trod (fun _=>()) Tryz.prog W 0 (fun _=>true) false m 263 l=some (.agg [.lit (.int .u64 a),.lit (.int .u64 b)],p)):l=[.int .u64 a,.int .u64 b]:=by
 obtain⟨y0,y1,n,hx,hl,h0,h1⟩:=trod_struct2 Tryz.underlying263 h;simp only[Prod.mk.injEq,DataW.agg.injEq,List.cons.injEq,and_true] at hx;obtain⟨⟨e0,e1⟩,_⟩:=hx;obtain⟨z0,c0,r0,_⟩:=DataW.trod_int Tryz.underlying202 h0;obtain⟨z1,c1,r1,_⟩:=DataW.trod_int Tryz.underlying54 h1;subst r0 r1;simp only[DataW.lit.injEq,Lit.int.injEq,true_and] at e0 e1;subst e0 e1;rw[cellsField] at hl;simp only[cellsUint,cellsUint64] at c0 c1
 match l,hl with
 | [v0,v1],_ =>
  simp at c0 c1;rw[c0,c1]
theorem tab_of_laid2 {W : World} {r : List (String × DataW Unit)} (h : laidMet Tryz.prog (("isthmus/pack.fields", Rows.laid_isthmus_pack_fields) :: r) W) : Tab W := by
 obtain⟨ps,⟨g',t',cs,fuel,p,q,hg',ht',hvar,hd,_,_⟩,_⟩:=h;obtain rfl:=Option.some.inj (gTab.symm.trans hg');obtain rfl:=Option.some.inj (gTabType.symm.trans ht');obtain⟨xs,m,_,hx,hl,hlen,hf⟩:=DataW.trod_array Tryz.underlying264 hd;rw[cellsTab] at hl;simp only[cellsField] at hf
 match xs,hlen with
 | [x0,x1,x2],_ =>
  have f0:=hf 0 (by omega);have f1:=hf 1 (by omega);have f2:=hf 2 (by omega);simp only[Rows.laid_isthmus_pack_fields,List.map_cons,List.map_nil,Prod.mk.injEq,DataW.agg.injEq,List.cons.injEq,and_true] at hx;obtain⟨⟨e0,e1,e2⟩,_⟩:=hx;obtain⟨d0,p0⟩:=x0;obtain⟨d1,p1⟩:=x1;obtain⟨d2,p2⟩:=x2;simp only at e0 e1 e2;subst e0 e1 e2;have g0:=field_cells f0;have g1:=field_cells f1;have g2:=field_cells f2;obtain⟨l⟩:=cs
  match l,hl with
  | [v0,v1,v2,v3,v4,v5],_ =>
   simp at g0 g1 g2;obtain⟨rfl,rfl⟩:=g0;obtain⟨rfl,rfl⟩:=g1;obtain⟨rfl,rfl⟩:=g2;have hc:=fun i=>World.var?_cell gTab hvar i;have c0:=hc 0;have c1:=hc 1;have c2:=hc 2;have c3:=hc 3;have c4:=hc 4;have c5:=hc 5;simp at c0 c1 c2 c3 c4 c5;refine⟨c0,c1,c2,c3,c4,c5,?_⟩;by_cases hs:2<W.heap.size
   ·exact hs
   ·exfalso
    have:W.heap[2]?=none:=Array.getElem?_eq_none (by omega)
    simp[World.cell?,this] at c0
theorem gBar : Tryz.prog.globalNamed "isthmus/emit.bare" = some 0 := by kernel_rfl
theorem gBarType:(Tryz.prog.globals[0]?).map (·.type)=some 208:=by kernel_rfl
theorem cellsBar:Tryz.prog.cellsOf 208=25:=by kernel_rfl
def barL:List Int:=[0,0,0,0,0,0,4,5,6,7,8,9,10,0,0,0,0,0,0,0,0,0,20,0,22]
def barD:List (DataW Unit):=(List.range 25).map fun j=>.lit (.int .i64 (barL.getD j 0))
theorem barD_eq:(Rows.laid_isthmus_emit_bare:DataW Unit)=.agg barD:=by rfl
theorem bar_of_laid {W : World} {r : List (String × DataW Unit)} (h : laidMet Tryz.prog (("isthmus/emit.bare", Rows.laid_isthmus_emit_bare) :: r) W) : (∀ k : Nat, k < 25 → W.cell? ⟨0, k, none⟩ = some (.int .i64 (barL.getD k 0))) ∧ 0 < W.heap.size := by
 rw[barD_eq] at h;obtain⟨ps,⟨g',t',cs,fuel,p,q,hg',ht',hvar,hd,_,_⟩,_⟩:=h;obtain rfl:=Option.some.inj (gBar.symm.trans hg');obtain rfl:=Option.some.inj (gBarType.symm.trans ht');obtain⟨xs,m,_,hx,hl,hlen,hf⟩:=DataW.trod_array Tryz.underlying208 hd;rw[cellsBar] at hl;simp only[cellsInt,Nat.mul_one] at hf;simp only[Prod.mk.injEq,DataW.agg.injEq] at hx;have hc:=fun i=>World.var?_cell gBar hvar i;have key:∀ o,o<25->cs[o]?=some (.int .i64 (barL.getD o 0)):=fun o ho=>by
  have hfi:=hf o ho;have hxi:xs[o]?=some xs[o]:=List.getElem?_eq_getElem (by omega);rw[hxi] at hfi;obtain⟨z,c0,r0,_⟩:=DataW.trod_int Tryz.underlying3 hfi;have hd:(xs.map (·.1))[o]?=some (.lit (.int .i64 z)):=by rw[List.getElem?_map,hxi,r0];rfl
  rw[<-hx.1] at hd;unfold barD at hd;rw[List.getElem?_map,List.getElem?_range ho] at hd;simp only[Option.map_some,Option.some.injEq,DataW.lit.injEq,Lit.int.injEq,true_and] at hd;have h0:((cs.toList.drop o).take 1)[0]?=some (.int .i64 z):=by rw[c0];rfl
  simp only[List.getElem?_take,List.getElem?_drop] at h0;rw[hd];simpa using h0
 refine⟨fun o ho=>(hc o).trans (key o ho),?_⟩;by_cases hs:0<W.heap.size
 ·exact hs
 ·exfalso;have h0:=(hc 0).trans (key 0 (by omega))
  have:W.heap[0]?=none:=Array.getElem?_eq_none (by omega)
  simp[World.cell?,this] at h0
theorem emtab_of_laid {W : World} (h : laidMet Tryz.prog [("isthmus/pack.fields", Rows.laid_isthmus_pack_fields), ("isthmus/lex.words", Rows.laid_isthmus_lex_words), ("isthmus/emit.bare", Rows.laid_isthmus_emit_bare)] W) : EmTab W := ⟨tab_of_laid2 h, (bar_of_laid h.tail.tail).1, (bar_of_laid h.tail.tail).2⟩
def bareA:Array Value:=((List.range 25).map fun j=>Value.int .i64 (barL.getD j 0)).toArray
def laidWorldE (P:Program)(os:Os):World :=
 let w0:=World.holding P os ⟨#[],#[],[]⟩
 { w0 with heap:=((w0.heap.modify 2 (layCells #[.int .u64 56,.int .u64 255,.int .u64 28,.int .u64 268435455,.int .u64 0,.int .u64 268435455])).modify 3 (layCells wordsA)).modify 0 (layCells bareA) }
theorem str_lit {s:ByteArray}{a:List UInt8}(h:s.data.toList=a):Value.string s=stv a:=by
 subst h;rfl
def rawP (n:Int)(nm:List UInt8)(a:Int)(len:Nat):Prop:=-9223372036854775808<=n/\n<=9223372036854775807/\nm.length<=maxLen/\-9223372036854775808<=a/\a<=9223372036854775807/\len<=maxLen
def Fs.raw:Fs->Prop
 | ⟨none⟩=>True
 | ⟨some ⟨_,n,nm,a,ks,r⟩⟩=>rawP n nm a ks.len/\ks.raw/\r.raw
def Ex.raw (e:Ex):Prop:=rawP e.n e.nm e.a e.kids.len/\e.kids.raw
theorem Fs.raw_wide:∀ {f:Fs},f.raw->f.wide
 | ⟨none⟩,h=>trivial
 | ⟨some ⟨k,n,nm,a,ks,r⟩⟩,h=>⟨h.1.2.2.2.2.2,Fs.raw_wide (f:=ks) h.2.1,Fs.raw_wide (f:=r) h.2.2⟩
theorem Fs.len_size':∀ (x:Fs),x.len<=x.size
 | ⟨none⟩=>Nat.le_refl _
 | ⟨some ⟨k,n,nm,a,ks,r⟩⟩=>by have:=Fs.len_size' r;show r.len+1<=ks.size+r.size+1;omega
theorem Fs.raw_fit:∀ {f:Fs},f.raw->f.size<=100000000->f.short/\f.rng
 | ⟨none⟩,h,hs=>⟨trivial,trivial⟩
 | ⟨some ⟨k,n,nm,a,ks,r⟩⟩,h,hs=>by
  have hs:ks.size+r.size+1<=100000000:=hs;have h1:=Fs.raw_fit (f:=ks) h.2.1 (by omega);have h2:=Fs.raw_fit (f:=r) h.2.2 (by omega)
  have:=Fs.len_size' ks
  exact⟨⟨h.1.2.2.1,by omega,h1.1,h2.1⟩,⟨h.1.1,h.1.2.1,h1.2,h2.2⟩⟩
theorem Ex.raw_fit {e:Ex}(h:e.raw)(hs:e.kids.size<=100000000):e.fit:=by
 obtain⟨h1,h2⟩:=Fs.raw_fit h.2 hs
 have:=Fs.len_size' e.kids
 exact⟨h.1.2.2.1,h1,by omega,h.1.1,h.1.2.1,h2⟩
theorem add_plain' (b off j:Nat):(⟨b,off,none⟩:Addr).add j=⟨b,off+j,none⟩:=by
 unfold Addr.add;split
 ·subst j;simp_all
 ·rfl
end Go.Proofs.YtbjdkekhnajafaaGreatDoor
