import Derived.Test.YtbjdkekhnajafaaGreatDoorMpN
import Derived.Laws.CopyOwn
import Derived.Laws.Bits64b
set_option maxRecDepth 100000
set_option maxHeartbeats 8000000
namespace Go.Proofs.YtbjdkekhnajafaaGreatDoor
open Go.ChangeShapes Go.WideShapes Go.ChangeAt Go.RowKit
set_option linter.unusedVariables false
set_option linter.unusedSimpArgs false
theorem eY {w:World}{b:Nat}{a0 a1:Value}{t:TypeId}(h:w.heap[b]?=some (.cells #[a0,a1] t (0,0))):w.cell? ⟨b,0,none⟩=some a0/\w.cell? ⟨b,1,none⟩=some a1/\∀ j,w.frozen? ⟨b,j,none⟩=false:=by
 refine⟨?_,?_,fun j=>frozen_of_row w b j _ t h⟩<;>simp[cell_of_row w b _ _ t (0,0) h]
theorem pX (e:Ex)(ao:Option Addr)(cap:Nat)(w:World)(hW:Wd w)(hnm:e.nm.length<=maxLen):Calls Tryz.prog 214 #[exN e ao cap] w fun x w'=>x=.returned (.bool (nmP e.k e.nm))/\Below w.heap.size w w':=by
 have B0:Below w.heap.size w (w.alloc (.cells #[.int .i64 e.k,.int .i64 e.n,stv e.nm,.slice ao e.kids.len cap] 34)):=(Below.refl _ w).alloc (Nat.le_refl _) _;have E0:(w.alloc (.cells #[.int .i64 e.k,.int .i64 e.n,stv e.nm,.slice ao e.kids.len cap] 34)).heap[w.heap.size]?=some (.cells #[.int .i64 e.k,.int .i64 e.n,stv e.nm,.slice ao e.kids.len cap] 34):=heap_alloc_new w _;have hW0:=hW.below B0;obtain⟨W,hZ⟩:∃W,W=nmP e.k e.nm:=⟨_,rfl⟩
 rw[<-hZ];have HW:Hid (W=nmP e.k e.nm):=hZ;clear hZ;rw[ah];go_enter Tryz.func214,Tryz.ntmps214;go_upto_region 1 with fail;generalize w.alloc (.cells #[.int .i64 e.k,.int .i64 e.n,stv e.nm,.slice ao e.kids.len cap] 34)=w0 at *;obtain⟨bx,hbx⟩:∃bx,bx=w.heap.size:=⟨_,rfl⟩
 rw[<-hbx] at E0 B0 ⊢;have HB:Hid (bx=w.heap.size):=hbx;clear hbx;obtain⟨p0,p1,p2,p3,pf⟩:=aI E0;cases hk:(e.k==23) with
 | true =>
  have HZ:Hid (W=aX e.nm):=by show W=_;rw[HW.out];simp[nmP,hk]
  have c1:=Ca ⟨e.nm.toArray⟩ w0 hW0 (by show e.nm.toArray.size<=maxLen;simpa using hnm);clear HW;go_wp2_with (go_at_call 101;refine c1.mono ?_;rintro x w1 ⟨rfl,b1⟩);have B1:=B0.trans (b1.mono (by have:=HB.out;have:=B0.size;omega));clear c1 p0 p1 p2 p3 pf;go_wp2;go_ret;rw[HZ.out];exact⟨rfl,by rw[<-HB.out];exact B1⟩
 | false =>
  cases hE:(e.nm==[]) with
  | true =>
   have hE2:=aF hE;have HZ:Hid (W=true):=by show W=_;rw[HW.out];simp[nmP,hk,hE]
   clear HW;go_wp2;go_ret;rw[HZ.out];exact⟨rfl,by rw[<-HB.out];exact B0⟩
  | false =>
   have hE2:=aF hE;have HZ:Hid (W=false):=by show W=_;rw[HW.out];simp[nmP,hk,hE]
   clear HW;go_wp2;go_ret;rw[HZ.out];exact⟨rfl,by rw[<-HB.out];exact B0⟩
theorem kF (w:World)(P:Nat->Prop)(v:Value)(ks:List Int)(i:Nat)(hi:i<10)(hl:ks.length<=1000000000)(h:Inw w P v ks):Calls Tryz.prog 262 #[v,.int .i64 (i:Nat)] w fun x w'=>x=.returned (.int .i64 (wkP ks i))/\w'=w:=by
 obtain⟨ao,cap,rfl,h⟩:=h;obtain⟨W,hZ⟩:∃W,W=wkP ks i:=⟨_,rfl⟩
 rw[<-hZ];have HW:Hid (W=wkP ks i):=hZ;clear hZ;by_cases hil:i<ks.length
 ·have hx:ks[i]?=some ks[i]:=List.getElem?_eq_getElem hil;rcases h with rfl|⟨b,off,rfl,-,hb,hc⟩
  ·simp at hil
  have c1:=hc i _ hx;have HZ:Hid (W=if ks[i]=4 then 0 else ks[i]):=by show W=_;rw[HW.out];unfold wkP;rw[hx]
  generalize ks[i]=y at *;have hI:¬(ks.length:Int)<=(i:Int):=by omega
  have hI2:(i:Int)<(ks.length:Int):=by omega
  clear HW hx hc;by_cases h4:y=4
  ·have hb4:(y==4)=true:=by simpa using h4
   have HZ:Hid (W=0):=by show W=_;rw[HZ.out,if_pos h4]
   clear h4;go_enter Tryz.func262,Tryz.ntmps262;go_wp2;go_ret;rw[HZ.out];exact⟨rfl,rfl⟩
  ·have hb4:(y==4)=false:=by simpa using h4
   have HZ:Hid (W=y):=by show W=_;rw[HZ.out,if_neg h4]
   clear h4;go_enter Tryz.func262,Tryz.ntmps262;go_wp2;go_ret;rw[HZ.out];exact⟨rfl,rfl⟩
 ·have hI:(ks.length:Int)<=(i:Int):=by omega
  have HZ:Hid (W=0):=by show W=_;rw[HW.out];unfold wkP;rw[List.getElem?_eq_none (by omega)]
  clear HW h;go_enter Tryz.func262,Tryz.ntmps262;go_wp2;go_ret;rw[HZ.out];exact⟨rfl,rfl⟩
theorem Ac (e:Ex)(ao:Option Addr)(cap ar wi i:Nat)(w:World)(ha:ar<=1000)(hw:wi<=1000)(hi:i<=1000000000):Calls Tryz.prog 216 #[.agg #[.int .i64 (ar:Nat),.int .i64 (wi:Nat)],exN e ao cap,.int .i64 (i:Nat)] w fun x w'=>x=.returned (.agg #[.int .i64 ((aL e.k i ar wi).1:Nat),.int .i64 ((aL e.k i ar wi).2:Nat)])/\Below w.heap.size w w':=by
 have BB:∀ o1 o2 o3:Obj,Below w.heap.size w (((w.alloc o1).alloc o2).alloc o3):=fun o1 o2 o3=>(((Below.refl _ w).alloc (Nat.le_refl _) _).alloc (by simp) _).alloc (by simp;omega) _;obtain⟨A,hA⟩:∃A,A=(aL e.k i ar wi).1:=⟨_,rfl⟩
 obtain⟨B,hB⟩:∃B,B=(aL e.k i ar wi).2:=⟨_,rfl⟩
 rw[<-hA,<-hB,ah];have HA:Hid (A=(aL e.k i ar wi).1/\B=(aL e.k i ar wi).2):=⟨hA,hB⟩
 clear hA hB;go_enter Tryz.func216,Tryz.ntmps216;cases hk:(e.k != 21) with
 | true =>
  have h21:e.k≠21:=by simpa using hk
  have HR:Hid ((A:Int)=ar/\(B:Int)=wi):=by
   obtain⟨h1,h2⟩:=HA.out;unfold aL at h1 h2;rw[if_neg h21] at h1 h2;exact⟨by rw[h1],by rw[h2]⟩
  clear HA h21;go_wp2;exact bodyPost_ret (v:=.agg #[.int .i64 (ar:Nat),.int .i64 (wi:Nat)]) (by simp[results,Tryz.results216,go_sem]) rfl ⟨by rw[HR.out.1,HR.out.2],BB _ _ _⟩
 | false =>
  have h21:e.k=21:=by simpa using hk
  by_cases h0:i=0
  ·subst h0;have HR:Hid ((A:Int)=ar/\(B:Int)=(wi:Int)+1):=by
    obtain⟨h1,h2⟩:=HA.out;unfold aL at h1 h2;rw[if_pos h21] at h1 h2;exact⟨by rw[h1];rfl,by rw[h2];rfl⟩
   clear HA h21;go_wp2;exact bodyPost_ret (v:=.agg #[.int .i64 (ar:Nat),.int .i64 ((wi:Int)+1)]) (by simp[results,Tryz.results216,go_sem]) rfl ⟨by rw[HR.out.1,HR.out.2],BB _ _ _⟩
  ·have hI:(0:Int)<(i:Int):=by omega
   have HR:Hid ((A:Int)=(ar:Int)+1/\(B:Int)=(wi:Int)+1):=by
    obtain⟨h1,h2⟩:=HA.out;unfold aL at h1 h2;rw[if_pos h21] at h1 h2;simp only[if_neg h0] at h1 h2;exact⟨by rw[h1];rfl,by rw[h2];rfl⟩
   clear HA h21;go_wp2;exact bodyPost_ret (v:=.agg #[.int .i64 ((ar:Int)+1),.int .i64 ((wi:Int)+1)]) (by simp[results,Tryz.results216,go_sem]) rfl ⟨by rw[HR.out.1,HR.out.2],BB _ _ _⟩
theorem mS (e:Ex)(ao:Option Addr)(cap ar wi rb nc:Nat)(w:World)(aoc:Option Addr)(capc:Nat)(a1 a2:Value)(hR:w.heap[rb]?=some (.cells #[.slice aoc nc capc,a1,a2] 197 (0,0))) :
  Calls Tryz.prog 215 #[.pointer (some ⟨rb,0,none⟩),exN e ao cap,.agg #[.int .i64 (ar:Nat),.int .i64 (wi:Nat)]] w fun x w'=>x=.returned (.bool (nuP nc e.k e.n ar))/\Below w.heap.size w w':=by
 obtain⟨W,hZ⟩:∃W,W=nuP nc e.k e.n ar:=⟨_,rfl⟩
 rw[<-hZ];have HW:Hid (W=nuP nc e.k e.n ar):=hZ;clear hZ;obtain⟨w0,hw0⟩:∃w0,w0=(w.alloc (.cells #[.int .i64 e.k,.int .i64 e.n,stv e.nm,.slice ao e.kids.len cap] 34)).alloc (.cells #[.int .i64 (ar:Nat),.int .i64 (wi:Nat)] 200):=⟨_,rfl⟩
 have B0:Below w.heap.size w w0:=by rw[hw0];exact((Below.refl _ w).alloc (Nat.le_refl _) _).alloc (by simp) _
 have E0:w0.heap[w.heap.size]?=some (.cells #[.int .i64 e.k,.int .i64 e.n,stv e.nm,.slice ao e.kids.len cap] 34):=by
  rw[hw0];exact(Below.heap_alloc _ _ _ (by simp)).trans (heap_alloc_new w _)
 have S0:w0.heap[w.heap.size+1]?=some (.cells #[.int .i64 (ar:Nat),.int .i64 (wi:Nat)] 200):=by
  rw[hw0]
  have:=heap_alloc_new (w.alloc (.cells #[.int .i64 e.k,.int .i64 e.n,stv e.nm,.slice ao e.kids.len cap] 34)) (.cells #[.int .i64 (ar:Nat),.int .i64 (wi:Nat)] 200)
  simpa using this
 have R0:=(B0.block _ (lt_of_block hR)).trans hR;rw[ah];go_enter Tryz.func215,Tryz.ntmps215;go_upto_region 1 with fail;rw[<-hw0];obtain⟨bx,hbx⟩:∃bx,bx=w.heap.size:=⟨_,rfl⟩
 rw[<-hbx] at E0 S0 B0 ⊢;have HB:Hid (bx=w.heap.size):=hbx;clear hbx hw0;obtain⟨p0,p1,p2,p3,pf⟩:=aI E0;obtain⟨s0,s1,sf⟩:=eY S0;obtain⟨r0,r1,r2,rf⟩:=it R0;clear E0 S0 R0 hR;by_cases h1:e.k=1
 ·have b1:(e.k==1)=true:=by simpa using h1
  have HZ:Hid (W=true):=by show W=_;rw[HW.out];simp[nuP,h1]
  clear HW h1;go_wp2;go_ret;rw[HZ.out];exact⟨rfl,by rw[<-HB.out];exact B0⟩
 have b1:(e.k==1)=false:=by simpa using h1
 by_cases h2:e.k=2
 ·have b2:(e.k==2)=true:=by simpa using h2
  cases g0:(e.n==0) with
  | true =>
   have HZ:Hid (W=true):=by show W=_;rw[HW.out];simp[nuP,h2,g0]
   clear HW h1 h2;go_wp2;go_ret;rw[HZ.out];exact⟨rfl,by rw[<-HB.out];exact B0⟩
  | false =>
   have HZ:Hid (W=(e.n==1)):=by show W=_;rw[HW.out];simp[nuP,h2,g0]
   clear HW h1 h2;go_wp2;go_ret;rw[HZ.out];exact⟨rfl,by rw[<-HB.out];exact B0⟩
 have b2:(e.k==2)=false:=by simpa using h2
 by_cases h3:e.k=3
 ·have b3:(e.k==3)=true:=by simpa using h3
  have HZ:Hid (W=decide (0<=e.n)):=by show W=_;rw[HW.out];simp[nuP,h3]
  clear HW h1 h2 h3;go_wp2;go_ret;rw[HZ.out];exact⟨rfl,by rw[<-HB.out];exact B0⟩
 have b3:(e.k==3)=false:=by simpa using h3
 by_cases h5:e.k=5
 ·have b5:(e.k==5)=true:=by simpa using h5
  by_cases g0:0<=e.n
  ·have HZ:Hid (W=decide (e.n<(ar:Int))):=by show W=_;rw[HW.out];simp[nuP,h5,g0]
   clear HW h1 h2 h3 h5;go_wp2;go_ret;rw[HZ.out];exact⟨rfl,by rw[<-HB.out];exact B0⟩
  ·have HZ:Hid (W=false):=by show W=_;rw[HW.out];simp[nuP,h5];omega
   clear HW h1 h2 h3 h5;go_wp2;go_ret;rw[HZ.out];exact⟨rfl,by rw[<-HB.out];exact B0⟩
 have b5:(e.k==5)=false:=by simpa using h5
 by_cases h20:e.k=20
 ·have b20:(e.k==20)=true:=by simpa using h20
  by_cases g0:1<=e.n
  ·have HZ:Hid (W=decide (e.n<=10)):=by show W=_;rw[HW.out];simp[nuP,h20,g0]
   clear HW h1 h2 h3 h5 h20;go_wp2;go_ret;rw[HZ.out];exact⟨rfl,by rw[<-HB.out];exact B0⟩
  ·have HZ:Hid (W=false):=by show W=_;rw[HW.out];simp[nuP,h20];omega
   clear HW h1 h2 h3 h5 h20;go_wp2;go_ret;rw[HZ.out];exact⟨rfl,by rw[<-HB.out];exact B0⟩
 have b20:(e.k==20)=false:=by simpa using h20
 by_cases h21:e.k=21
 ·have b21:(e.k==21)=true:=by simpa using h21
  by_cases g0:1<=e.n
  ·have HZ:Hid (W=decide (e.n<=6)):=by show W=_;rw[HW.out];simp[nuP,h21,g0]
   clear HW h1 h2 h3 h5 h20 h21;go_wp2;go_ret;rw[HZ.out];exact⟨rfl,by rw[<-HB.out];exact B0⟩
  ·have HZ:Hid (W=false):=by show W=_;rw[HW.out];simp[nuP,h21];omega
   clear HW h1 h2 h3 h5 h20 h21;go_wp2;go_ret;rw[HZ.out];exact⟨rfl,by rw[<-HB.out];exact B0⟩
 have b21:(e.k==21)=false:=by simpa using h21
 by_cases h26:e.k=26
 ·have b26:(e.k==26)=true:=by simpa using h26
  have bdr:∀ m,Below w0.heap.size w0 (w0.drewN m):=fun m=>⟨rfl,rfl,rfl,Nat.le_refl _,fun _ _=>rfl⟩;have hsz:Hid (bx<=w0.heap.size):=by have:=B0.size;show bx<=_;rw[HB.out];exact B0.size
  by_cases g0:0<=e.n
  ·have HZ:Hid (W=decide (e.n<(nc:Int))):=by show W=_;rw[HW.out];simp[nuP,h26,g0]
   clear HW h1 h2 h3 h5 h20 h21 h26;go_wp2_with fail
   go_quiet (fail)
   have B1:=B0.trans ((bdr nq).mono hsz.out);go_wp2;go_ret;rw[HZ.out];exact⟨rfl,by rw[<-HB.out];exact B1⟩
  ·have HZ:Hid (W=false):=by show W=_;rw[HW.out];simp[nuP,h26];omega
   have hd:decide (0<=e.n)=false:=decide_eq_false g0;clear HW h1 h2 h3 h5 h20 h21 h26;go_wp2_with fail
   go_quiet (fail)
   have B1:=B0.trans ((bdr nq).mono hsz.out);go_wp2;go_ret;rw[HZ.out];exact⟨rfl,by rw[<-HB.out];exact B1⟩
 have b26:(e.k==26)=false:=by simpa using h26
 have HZ:Hid (W=(e.n==0)):=by show W=_;rw[HW.out];simp[nuP,h1,h2,h3,h5,h20,h21,h26]
 clear HW h1 h2 h3 h5 h20 h21 h26;go_wp2;go_ret;rw[HZ.out];exact⟨rfl,by rw[<-HB.out];exact B0⟩
abbrev InA (w:World)(v:Value)(xs:List Int):Prop:=Inw w (fun _=>True) v xs
theorem aQ {P:Nat->Prop}(w:World)(xs:List Int)(t:TypeId)(g c:Nat)(hg:g=w.heap.size)(n:Nat)(hn:n=xs.length)(hP:P g):Inw (w.alloc (.cells (xs.map (Value.int .i64)).toArray t)) P (.slice (some ⟨g,0,none⟩) n c) xs:=by
 subst hg;subst hn;refine⟨_,c,rfl,?_⟩;refine .inr ⟨w.heap.size,0,rfl,hP,by simp,fun j x hx=>?_⟩;rw[cell_of_row _ _ _ _ _ _ (heap_alloc_new w _)];simp[hx]
def ry (w:World)(p:List Int × Int)(x:Ending)(w':World):Prop:=∃v,x=.returned (.agg #[v,.int .i64 p.2])/\Inw w' (Nw w.heap.size) v p.1/\Below w.heap.size w w'
def clP (n:Int):List Int × Int:=if n=1\/n=2 then ([3,3],2) else if n=3 then ([3,3],1) else if n=10 then ([3],3) else ([3],1)
def qfP (n:Int):List Int × Int:=if n=1\/n=2 then ([4,2],2) else if n=3 then ([4,2],1) else ([4,1],1)
theorem rA (n:Int)(w:World):Calls Tryz.prog 263 #[.int .i64 n] w (ry w (clP n)):=by
 have BB:∀ o1 o2:Obj,Below w.heap.size w ((w.alloc o1).alloc o2):=fun o1 o2=>((Below.refl _ w).alloc (Nat.le_refl _) _).alloc (by simp) _;unfold clP;by_cases h1:n=1
 ·subst h1;simp only[Int.reduceEq,or_false,false_or,or_true,true_or,if_true,if_false,or_self];go_enter Tryz.func263,Tryz.ntmps263;go_wp2;exact bodyPost_ret (v:=.agg #[.slice (some ⟨w.heap.size+1,0,none⟩) 2 2,.int .i64 2]) (by simp[results,Tryz.results263,go_sem]) rfl ⟨_,rfl,aQ _ [3,3] _ _ _ (by simp) _ rfl (by show w.heap.size<=_;omega),BB _ _⟩
 have b1:(n==1)=false:=by simpa using h1
 by_cases h2:n=2
 ·subst h2;simp only[Int.reduceEq,or_false,false_or,or_true,true_or,if_true,if_false,or_self];go_enter Tryz.func263,Tryz.ntmps263;go_wp2;exact bodyPost_ret (v:=.agg #[.slice (some ⟨w.heap.size+1,0,none⟩) 2 2,.int .i64 2]) (by simp[results,Tryz.results263,go_sem]) rfl ⟨_,rfl,aQ _ [3,3] _ _ _ (by simp) _ rfl (by show w.heap.size<=_;omega),BB _ _⟩
 have b2:(n==2)=false:=by simpa using h2
 by_cases h3:n=3
 ·subst h3;simp only[Int.reduceEq,or_false,false_or,or_true,true_or,if_true,if_false,or_self];go_enter Tryz.func263,Tryz.ntmps263;go_wp2;exact bodyPost_ret (v:=.agg #[.slice (some ⟨w.heap.size+1,0,none⟩) 2 2,.int .i64 1]) (by simp[results,Tryz.results263,go_sem]) rfl ⟨_,rfl,aQ _ [3,3] _ _ _ (by simp) _ rfl (by show w.heap.size<=_;omega),BB _ _⟩
 have b3:(n==3)=false:=by simpa using h3
 by_cases h10:n=10
 ·subst h10;simp only[Int.reduceEq,or_false,false_or,or_true,true_or,if_true,if_false,or_self];go_enter Tryz.func263,Tryz.ntmps263;go_wp2;exact bodyPost_ret (v:=.agg #[.slice (some ⟨w.heap.size+1,0,none⟩) 1 1,.int .i64 3]) (by simp[results,Tryz.results263,go_sem]) rfl ⟨_,rfl,aQ _ [3] _ _ _ (by simp) _ rfl (by show w.heap.size<=_;omega),BB _ _⟩
 have b10:(n==10)=false:=by simpa using h10
 simp only[h1,h2,h3,h10,or_self,if_false];clear h1 h2 h3 h10;go_enter Tryz.func263,Tryz.ntmps263;go_wp2;exact bodyPost_ret (v:=.agg #[.slice (some ⟨w.heap.size+1,0,none⟩) 1 1,.int .i64 1]) (by simp[results,Tryz.results263,go_sem]) rfl ⟨_,rfl,aQ _ [3] _ _ _ (by simp) _ rfl (by show w.heap.size<=_;omega),BB _ _⟩
theorem qE (n:Int)(w:World):Calls Tryz.prog 264 #[.int .i64 n] w (ry w (qfP n)):=by
 have BB:∀ o1 o2:Obj,Below w.heap.size w ((w.alloc o1).alloc o2):=fun o1 o2=>((Below.refl _ w).alloc (Nat.le_refl _) _).alloc (by simp) _;unfold qfP;by_cases h1:n=1
 ·subst h1;simp only[Int.reduceEq,or_false,false_or,or_true,true_or,if_true,if_false,or_self];go_enter Tryz.func264,Tryz.ntmps264;go_wp2;exact bodyPost_ret (v:=.agg #[.slice (some ⟨w.heap.size+1,0,none⟩) 2 2,.int .i64 2]) (by simp[results,Tryz.results264,go_sem]) rfl ⟨_,rfl,aQ _ [4,2] _ _ _ (by simp) _ rfl (by show w.heap.size<=_;omega),BB _ _⟩
 have b1:(n==1)=false:=by simpa using h1
 by_cases h2:n=2
 ·subst h2;simp only[Int.reduceEq,or_false,false_or,or_true,true_or,if_true,if_false,or_self];go_enter Tryz.func264,Tryz.ntmps264;go_wp2;exact bodyPost_ret (v:=.agg #[.slice (some ⟨w.heap.size+1,0,none⟩) 2 2,.int .i64 2]) (by simp[results,Tryz.results264,go_sem]) rfl ⟨_,rfl,aQ _ [4,2] _ _ _ (by simp) _ rfl (by show w.heap.size<=_;omega),BB _ _⟩
 have b2:(n==2)=false:=by simpa using h2
 by_cases h3:n=3
 ·subst h3;simp only[Int.reduceEq,or_false,false_or,or_true,true_or,if_true,if_false,or_self];go_enter Tryz.func264,Tryz.ntmps264;go_wp2;exact bodyPost_ret (v:=.agg #[.slice (some ⟨w.heap.size+1,0,none⟩) 2 2,.int .i64 1]) (by simp[results,Tryz.results264,go_sem]) rfl ⟨_,rfl,aQ _ [4,2] _ _ _ (by simp) _ rfl (by show w.heap.size<=_;omega),BB _ _⟩
 have b3:(n==3)=false:=by simpa using h3
 simp only[h1,h2,h3,or_self,if_false];clear h1 h2 h3;go_enter Tryz.func264,Tryz.ntmps264;go_wp2;exact bodyPost_ret (v:=.agg #[.slice (some ⟨w.heap.size+1,0,none⟩) 2 2,.int .i64 1]) (by simp[results,Tryz.results264,go_sem]) rfl ⟨_,rfl,aQ _ [4,1] _ _ _ (by simp) _ rfl (by show w.heap.size<=_;omega),BB _ _⟩
theorem wC (w:World)(v1 v2:Value)(xs ys:List Int)(h1:InA w v1 xs)(h2:InA w v2 ys)(hl:xs.length<=1000000000) :
  Calls Tryz.prog 218 #[v1,v2] w fun x w'=>x=.returned (.bool (decide (xs=ys)))/\Below w.heap.size w w':=by
 obtain⟨W,hW⟩:∃W,W=decide (xs=ys):=⟨_,rfl⟩
 rw[<-hW];have HW:Hid (W=decide (xs=ys)):=hW;clear hW;obtain⟨a1,c1,rfl,h1⟩:=h1;obtain⟨a2,c2,rfl,h2⟩:=h2;go_enter Tryz.func218,Tryz.ntmps218;by_cases hll:xs.length=ys.length
 ·have hI:((xs.length:Int) != (ys.length:Int))=false:=by rw[hll];simp
  have HL:Hid (xs.length=ys.length):=hll;clear hll;go_wp2;go_loopw [13] (fun v wr=>∃k:Nat,k<=xs.length/\v=.int .i64 (k:Nat)/\Hid (∀ j,j<k->xs[j]?=ys[j]?)/\Below w.heap.size w wr) (fun v _=>xs.length-(intOf v).toNat)
  case atStart=>exact⟨0,by omega,by go_num,fun j hj=>absurd hj (Nat.not_lt_zero _),Below.refl _ _⟩
  case round =>
   obtain⟨k,hk,rfl,hno,B1⟩:=hrel;by_cases hlt:k<xs.length
   ·have hy:k<ys.length:=by have:=HL.out;omega
    have hx1:xs[k]?=some xs[k]:=List.getElem?_eq_getElem hlt;have hy1:ys[k]?=some ys[k]:=List.getElem?_eq_getElem hy;rcases h1 with rfl|⟨g1,o1,rfl,-,hg1,hc1⟩
    ·simp at hlt
    rcases h2 with rfl|⟨g2,o2,rfl,-,hg2,hc2⟩
    ·simp at hy
    have x1:=(B1.cell (p:=⟨g1,o1+k,none⟩) hg1).trans (hc1 k _ hx1);have y1:=(B1.cell (p:=⟨g2,o2+k,none⟩) hg2).trans (hc2 k _ hy1);generalize xs[k]=x at x1 hx1;generalize ys[k]=y at y1 hy1;have hkI:(k:Int)<(xs.length:Int):=by omega
    have hkJ:(k:Int)<(ys.length:Int):=by omega
    have HX:Hid (xs[k]?=some x/\ys[k]?=some y):=⟨hx1,hy1⟩
    clear hx1 hy1 hc1 hc2 hI;by_cases he:x=y
    ·have hbe:(x != y)=false:=by simpa using he
     have hn2:Hid (∀ j,j<k+1->xs[j]?=ys[j]?):=by
      intro j hj;rcases Nat.lt_succ_iff_lt_or_eq.1 hj with h3|rfl
      ·exact hno.out j h3
      ·rw[HX.out.1,HX.out.2,he]
     clear hno HX he HW;go_wp2_with fail
     go_quiet (fail)
     have B2:=B1.trans (show Below w.heap.size wr (wr.drewN nq) from ⟨rfl,rfl,rfl,Nat.le_refl _,fun _ _=>rfl⟩);go_wp2;go_roundw
     case rel=>exact⟨k+1,by omega,by go_num,hn2,B2⟩
     case measure=>simp[intOf];omega
    ·have hbe:(x != y)=true:=by simpa using he
     have FIN:Hid (W=false):=by
      show W=_;rw[HW.out];apply decide_eq_false;intro h3;rw[h3,HX.out.2] at HX
      have:=HX.out.1
      injection this with this
      exact he this.symm
     clear hno HX he HW;go_wp2_with fail
     go_quiet (fail)
     have B2:=B1.trans (show Below w.heap.size wr (wr.drewN nq) from ⟨rfl,rfl,rfl,Nat.le_refl _,fun _ _=>rfl⟩);go_wp2;go_ret;rw[FIN.out];exact⟨rfl,B2⟩
   ·have hkI:¬(k:Int)<(xs.length:Int):=by omega
    have FIN:Hid (W=true):=by
     show W=_;rw[HW.out];apply decide_eq_true;apply List.ext_getElem?;intro j;rcases Nat.lt_or_ge j k with h3|h3
     ·exact hno.out j h3
     ·rw[List.getElem?_eq_none (by omega),List.getElem?_eq_none (by have:=HL.out;omega)]
    clear hno HW h1 h2 hI;go_wp2;go_ret;rw[FIN.out];exact⟨rfl,B1⟩
 ·have hI:((xs.length:Int) != (ys.length:Int))=true:=by simp;omega
  have FIN:Hid (W=false):=by
   show W=_;rw[HW.out];exact decide_eq_false (fun h3=>hll (by rw[h3]))
  clear HW hll h1 h2;go_wp2;go_ret;rw[FIN.out];exact⟨rfl,Below.refl _ _⟩
def nlB (c:Int):Bool:=decide (c<0)||decide (4<c)
theorem uk (c:Int)(w:World):Calls Tryz.prog 143 #[.int .i64 c] w fun x w'=>x=.returned (.bool (nlB c))/\w'=w:=by
 unfold nlB;by_cases h0:c<0
 ·have hd:decide (c<0)=true:=decide_eq_true h0;rw[hd];go_enter Tryz.func143,Tryz.ntmps143;go_wp2;go_ret;exact⟨rfl,rfl⟩
 ·have hd:decide (c<0)=false:=decide_eq_false h0;rw[hd];simp only[Bool.false_or];go_enter Tryz.func143,Tryz.ntmps143;go_wp2;go_ret;exact⟨rfl,rfl⟩
theorem pW (w:World)(v:Value)(xs:List Int)(h:InA w v xs)(hl:xs.length<=1000000000) :
  Calls Tryz.prog 213 #[v,.func (.func 143) #[] #[]] w fun x w'=>(∃k:Int,x=.returned (.int .i64 k)/\decide (0<=k)=xs.any nlB)/\w'=w:=by
 obtain⟨W,hW⟩:∃W,W=xs.any nlB:=⟨_,rfl⟩
 rw[<-hW];have HW:Hid (W=xs.any nlB):=hW;clear hW;obtain⟨a1,c1,rfl,h⟩:=h;go_enter Tryz.func213,Tryz.ntmps213;go_wp2;go_loopw [8] (fun v wr=>∃k:Nat,k<=xs.length/\v=.int .i64 (k:Nat)/\Hid (∀ j c,j<k->xs[j]?=some c->nlB c=false)/\wr=w) (fun v _=>xs.length-(intOf v).toNat)
 case atStart=>exact⟨0,by omega,by go_num,fun j c hj=>absurd hj (Nat.not_lt_zero _),rfl⟩
 case round =>
  obtain⟨k,hk,rfl,hno,rfl⟩:=hrel;by_cases hlt:k<xs.length
  ·have hx1:xs[k]?=some xs[k]:=List.getElem?_eq_getElem hlt;rcases h with rfl|⟨g1,o1,rfl,-,hg1,hc1⟩
   ·simp at hlt
   have x1:=hc1 k _ hx1;generalize xs[k]=x at x1 hx1;have hkI:(k:Int)<(xs.length:Int):=by omega
   have HX:Hid (xs[k]?=some x):=hx1;have hc:=fun w=>uk x w;clear hx1 hc1;cases hb:nlB x with
   | false =>
    rw[hb] at hc;have hn2:Hid (∀ j c,j<k+1->xs[j]?=some c->nlB c=false):=by
     intro j c hj hc;rcases Nat.lt_succ_iff_lt_or_eq.1 hj with h3|rfl
     ·exact hno.out j c h3 hc
     ·rw[HX.out] at hc;injection hc with hc
      rw[<-hc,hb]
    clear hno HX HW;go_wp2_with (go_at_call 143;refine(hc _).mono ?_;rintro z w2 ⟨rfl,rfl⟩);go_wp2;go_roundw
    case rel=>exact⟨k+1,by omega,by go_num,hn2,trivial⟩
    case measure=>simp[intOf];omega
   | true =>
    rw[hb] at hc;have FIN:Hid (W=true):=by
     show W=_;rw[HW.out];exact List.any_eq_true.2 ⟨x,List.mem_of_getElem? HX.out,hb⟩
    clear hno HX HW;go_wp2_with (go_at_call 143;refine(hc _).mono ?_;rintro z w2 ⟨rfl,rfl⟩);go_wp2;go_ret;rw[FIN.out];exact⟨⟨_,rfl,by simp⟩,rfl⟩
  ·have hkI:¬(k:Int)<(xs.length:Int):=by omega
   have FIN:Hid (W=false):=by
    show W=_;rw[HW.out,List.any_eq_false];intro c hc;obtain⟨j,hj,h2⟩:=List.mem_iff_getElem.1 hc
    have:=hno.out j c (by omega) (by rw[List.getElem?_eq_getElem hj,h2])
    simp[this]
   clear hno HW h;go_wp2;go_ret;rw[FIN.out];exact⟨⟨_,rfl,by decide⟩,rfl⟩
theorem lT (w:World)(v:Value)(xs:List Int)(h:InA w v xs)(hl:xs.length<=1000000000) :
  Calls Tryz.prog 142 #[v,.func (.func 143) #[] #[]] w fun x w'=>x=.returned (.bool (xs.any nlB))/\w'=w:=by
 have c1:=pW w v xs h hl;generalize xs.any nlB=W at *;go_enter Tryz.func142,Tryz.ntmps142;go_wp2_with fail;refine c1.mono ?_;rintro z w2 ⟨⟨k,rfl,hk⟩,rfl⟩;subst hk;go_wp2;go_ret;exact⟨rfl,rfl⟩
theorem xM (n:Nat)(hn:n<=100000):bits BinOp.and IntKind.u64 (n:Int) 4294967295=n:=by
 have h:=bits_and_u64_nat n 4294967295 (by omega) (by omega);have h2:n &&& 4294967295=n:=by
  have:=Nat.and_two_pow_sub_one_eq_mod n 32
  rw[show (2 ^ 32-1:Nat)=4294967295 from rfl] at this;rw[this];exact Nat.mod_eq_of_lt (by omega)
 rw[h2] at h;exact h
theorem AW (n:Nat)(hn:n<=100000)(w:World):Calls Tryz.prog 222 #[.int .u64 1,.int .u64 (n:Nat)] w fun x w'=>x=.returned (.tuple #[.int .u64 0,.int .u64 (n:Nat)])/\w'=w:=by
 have a1:bits BinOp.and IntKind.u64 1 4294967295=1:=xM 1 (by omega);have a0:bits BinOp.and IntKind.u64 0 4294967295=0:=xM 0 (by omega);have an:=xM n hn;have d0:(n:Int) / 4294967296=0:=by omega
 go_enter Tryz.func222,Tryz.ntmps222;go_wp2;exact bodyPost_ret (v:=.tuple #[.int .u64 0,.int .u64 (n:Nat)]) (by simp[results,Tryz.results222,go_sem]) rfl ⟨rfl,rfl⟩
theorem BM (n:Nat)(hn:n<=100000)(w:World):Calls Tryz.prog 145 #[.int .u64 1,.int .u64 (n:Nat)] w fun x w'=>x=.returned (.tuple #[.int .u64 0,.int .u64 (n:Nat)])/\w'=w:=by
 have m1:=fun w=>AW n hn w;go_enter Tryz.func145,Tryz.ntmps145;go_wp2_with fail;refine(m1 _).mono ?_;rintro z w1 ⟨rfl,rfl⟩;go_wp2;exact bodyPost_ret (v:=.tuple #[.int .u64 0,.int .u64 (n:Nat)]) (by simp[results,Tryz.results145,go_sem]) rfl ⟨rfl,rfl⟩
theorem lq:(Tryz.prog.info? 3).map (fun i=>(i.zero,i.size,i.bytes))=some (some (.int .i64 0),1,8):=by kernel_rfl
theorem oA {cur cs:List Value}{k:Nat}{v:Value}(hc:∀ j,j<k->cur[j]?=some v)(hs:∀ j,j<cs.length->cs[j]?=some v)(hk:k+cs.length<=cur.length):∀ j,j<k+cs.length->(splice cur k cs)[j]?=some v:=by
 intro j hj;unfold splice;rcases Nat.lt_or_ge j k with h1|h1
 ·rw[List.getElem?_append_left (by simp;omega),List.getElem?_take_of_lt h1];exact hc j h1
 ·have hl:(cur.take k).length=k:=by simp;omega
  rw[List.getElem?_append_right (by omega),hl,List.getElem?_append_left (by omega)];exact hs (j-k) (by omega)
theorem fN {P:Program}{w:World}(dT sT ty elem:TypeId)(hu:P.underlying dT=some (.slice elem))(hsz:(P.info? elem).map (·.size)=some 1)
  (dp sp:Option Addr) (dLen dCap sLen sCap:Nat) (g off:Nat) (cur:List Value) (t:TypeId) (hg:w.heap[g]?=some (.cells cur.toArray t (0,0))) (cs:List Value) (hn:cs.length=Nat.min sLen dLen)
  (hpos:0<cs.length->dp=some ⟨g,off,none⟩/\∃ad,sp=some ad/\∀ j v,cs[j]?=some v->w.cell? (ad.add j)=some v)
  (hfit:off+cs.length<=cur.length) (h1:∀ v ∈ cs,v.oneCell'=true) :
  ∃w',(Builtin.copy_ #[dT,sT] ty #[.slice dp dLen dCap,.slice sp sLen sCap]).run P w=.ok (goInt cs.length) w'/\w'.heap[g]?=some (.cells (splice cur off cs).toArray t (0,0))/\Below g w w':=by
 by_cases h0:cs.length=0
 ·obtain rfl:cs=[]:=List.eq_nil_of_length_eq_zero h0;have hrun:=run_copy_none (P:=P) w dT sT ty elem dp sp dLen dCap sLen sCap hu hsz (by simpa using hn.symm);exact⟨w,hrun,by simpa [splice] using hg,Below.refl _ _⟩
 ·obtain⟨rfl,ad,rfl,hsrc⟩:=hpos (by omega);have hrun:=run_copy_row (P:=P) w dT sT ty elem g off dLen dCap ad sLen sCap cur.toArray t cs hu hsz hg hn hsrc (by simpa using hfit) h1;exact⟨_,hrun,by simpa [splice] using setRow_heap w g _ _ t _ hg,below_setRow (Below.refl _ _) (Nat.le_refl _) _⟩
theorem yv (w:World)(b off c n:Nat)(hn:n<=100000)(hb:b<w.heap.size)(hc:w.cell? ⟨b,off,none⟩=some (.int .i64 3)) :
  Calls Tryz.prog 85 #[.slice (some ⟨b,off,none⟩) 1 c,.int .i64 (n:Nat)] w fun x w'=>∃v,x=.returned v/\Inw w' (Nw w.heap.size) v (List.replicate n 3)/\Below w.heap.size w w':=by
 obtain⟨ii,hii,hzi0,hzi1,hzi2⟩:=aH lq;have mk:∀ w:World,(Instr.makeSlice 35 (.int .i64 (n:Nat)) (.int .i64 (n:Nat))).run Tryz.prog w=.ok (.slice (some ⟨w.heap.size,0,none⟩) n n) (w.alloc (.cells (madeCells (Value.int .i64 0).cells (n*1)) 3)):=fun w=>by
  have:=run_make (P:=Tryz.prog) w 35 3 ii _ Tryz.underlying35 hii hzi0 .i64 .i64 n n (by omega) (Int.le_refl _) (by rw[hzi2];omega) (by omega)
  rw[hzi1] at this;simpa only[Int.toNat_natCast] using this
 obtain⟨X,hX,hXl⟩:∃X:List Value,madeCells (Value.int .i64 0).cells (n*1)=X.toArray/\X.length=n:=⟨(madeCells (Value.int .i64 0).cells (n*1)).toList,by simp,by simp[madeCells,Value.cells]⟩
 rw[hX] at mk;have B0:Below w.heap.size w (w.alloc (.cells X.toArray 3)):=(Below.refl _ w).alloc (Nat.le_refl _) _;have E0:(w.alloc (.cells X.toArray 3)).heap[w.heap.size]?=some (.cells X.toArray 3 (0,0)):=heap_alloc_new w _;have c0:=(B0.cell (p:=⟨b,off,none⟩) hb).trans hc;have m1:=fun w=>BM n hn w;clear hX hc;go_enter Tryz.func85,Tryz.ntmps85;go_wp2_with fail;refine(m1 _).mono ?_;rintro z w1 ⟨rfl,rfl⟩;go_upto_region 7 with fail;generalize w1.alloc (.cells X.toArray 3)=w0 at *;obtain⟨g,hg⟩:∃g,g=w1.heap.size:=⟨_,rfl⟩
 rw[<-hg] at E0 ⊢;have HG:Hid (g=w1.heap.size):=hg;have hgs:(Tryz.prog.info? 3).map (·.size)=some 1:=by rw[hii];simp[hzi1]
 obtain⟨cs,hcs⟩:∃cs,cs=List.replicate (min 1 n) (Value.int .i64 3):=⟨_,rfl⟩
 have hcl:cs.length=min 1 n:=by rw[hcs];simp
 have hcv:∀ j v,cs[j]?=some v->j=0/\v=Value.int .i64 3:=by
  intro j v hv;rw[hcs,List.getElem?_replicate] at hv;split at hv
  ·injection hv with hv
   exact⟨by omega,hv.symm⟩
  ·cases hv
 have hca:∀ j,j<cs.length->cs[j]?=some (Value.int .i64 3):=by
  intro j hj;rw[hcs,List.getElem?_replicate];rw[hcl] at hj;rw[if_pos hj]
 clear hcs hg;obtain⟨w2,hr2,hg2,hb2⟩:=fN (P:=Tryz.prog) (w:=w0) 35 35 3 3 Tryz.underlying35 hgs (some ⟨g,0,none⟩) (some ⟨b,off,none⟩) n n 1 c g 0 X 3 E0 cs (by rw[hcl]) (fun _=>⟨rfl,_,rfl,fun j v hv=>by obtain⟨rfl,rfl⟩:=hcv j v hv;exact c0⟩) (by omega) (fun v hv=>by obtain⟨j,hj,h2⟩:=List.mem_iff_getElem.1 hv;rw[(hcv j v (by rw[List.getElem?_eq_getElem hj,h2])).2];rfl);have hlen2:(splice X 0 cs).length=n:=by rw[length_splice _ _ _ (by omega)];exact hXl
 have hat2:Hid (∀ j,j<0+cs.length->(splice X 0 cs)[j]?=some (Value.int .i64 3)):=oA (fun j hj=>absurd hj (Nat.not_lt_zero _)) hca (by omega);generalize splice X 0 cs=Y at *;have hgl:Hid (g=w1.heap.size):=HG;have B2:Below w1.heap.size w1 w2:=B0.trans (by rw[<-HG.out];exact hb2);have hk1:Hid (min 1 n<=n/\(0<n->0<min 1 n)):=⟨by omega,by omega⟩
 rw[hcl,Nat.zero_add] at hat2;have hgi:goInt cs.length=.int .i64 (min 1 n:Nat):=by rw[hcl];rfl
 rw[hgi] at hr2;generalize min 1 n=k1 at *;have h2:=lt_of_block hg2;clear E0 c0 hca hcv B0 hb2 hgi;go_wp2;go_loopw [8] (fun v wr=>∃(k:Nat) (Y:List Value),k<=n/\v=.int .i64 (k:Nat)/\(0<n->0<k)/\Y.length=n/\Hid (∀ j,j<k->Y[j]?=some (Value.int .i64 3))/\wr.heap[g]?=some (.cells Y.toArray 3 (0,0))/\Below w1.heap.size w1 wr) (fun v _=>n-(intOf v).toNat)
 case atStart=>exact⟨k1,Y,hk1.out.1,rfl,hk1.out.2,hlen2,hat2,hg2,B2⟩
 case round =>
  clear hk1 hlen2 hat2 hg2 B2 hr2 hcl h2;obtain⟨k,Y,hk,rfl,hk0,hyl,hat,E1,B1⟩:=hrel;by_cases hlt:k<n
  ·have hkI:(k:Int)<(n:Int):=by omega
   have bdT:Below wr.heap.size wr wr.drew:=⟨rfl,rfl,rfl,Nat.le_refl _,fun _ _=>rfl⟩
   have Ed:wr.drew.heap[g]?=some (.cells Y.toArray 3 (0,0)):=E1;obtain⟨ds,hds⟩:∃ds,ds=List.replicate (min k (n-k)) (Value.int .i64 3):=⟨_,rfl⟩
   have hdl:ds.length=min k (n-k):=by rw[hds];simp
   have hda:∀ j,j<ds.length->ds[j]?=some (Value.int .i64 3):=by
    intro j hj;rw[hds,List.getElem?_replicate];rw[hdl] at hj;rw[if_pos hj]
   have hdv:∀ j v,ds[j]?=some v->j<k/\v=Value.int .i64 3:=by
    intro j v hv;rw[hds,List.getElem?_replicate] at hv;split at hv
    ·injection hv with hv
     exact⟨by omega,hv.symm⟩
    ·cases hv
   clear hds;obtain⟨w3,hr3,hg3,hb3⟩:=fN (P:=Tryz.prog) (w:=wr.drew) 35 35 3 3 Tryz.underlying35 hgs (some ⟨g,k,none⟩) (some ⟨g,0,none⟩) (n-k) (n-k) k n g k Y 3 Ed ds (by rw[hdl]) (fun _=>⟨rfl,_,rfl,fun j v hv=>by
    obtain⟨hj,rfl⟩:=hdv j v hv;have ea:(Addr.add ⟨g,0,none⟩ j)=⟨g,j,none⟩:=by simp[Addr.add];exact fun h=>h.symm
    rw[ea,cell_of_row _ _ _ _ _ _ Ed];simpa using hat.out j hj⟩) (by omega) (fun v hv=>by obtain⟨j,hj,h2⟩:=List.mem_iff_getElem.1 hv;rw[(hdv j v (by rw[List.getElem?_eq_getElem hj,h2])).2];rfl)
   have hlen3:(splice Y k ds).length=n:=by rw[length_splice _ _ _ (by omega)];exact hyl
   have hat3:Hid (∀ j,j<k+ds.length->(splice Y k ds)[j]?=some (Value.int .i64 3)):=oA hat.out hda (by omega);generalize splice Y k ds=Y3 at *;have B3:Below w1.heap.size w1 w3:=(B1.trans (bdT.mono B1.size)).trans (by rw[<-HG.out];exact hb3);rw[hdl] at hat3;have hgi:goInt ds.length=.int .i64 (min k (n-k):Nat):=by rw[hdl];rfl
   rw[hgi] at hr3;have hpos:0<min k (n-k):=by have:=hk0 (by omega);omega
   have hle:k+min k (n-k)<=n:=by omega
   generalize min k (n-k)=d at *;clear hat hda hdv hdl hgi E1 hyl Ed;go_wp2_with fail;go_region;go_wp2;go_roundw
   case rel=>exact⟨k+d,Y3,hle,by simp,fun _=>by omega,hlen3,hat3,hg3,B3⟩
   case measure=>simp[intOf];omega
  ·have hkI:¬(k:Int)<(n:Int):=by omega
   have HR:Hid (∃v,Ending.returned (.slice (some ⟨g,0,none⟩) n n)=Ending.returned v/\Inw wr (Nw w1.heap.size) v (List.replicate n 3)/\Below w1.heap.size w1 wr):=by
    refine⟨_,rfl,⟨_,n,by simp,.inr ⟨g,0,rfl,by show w1.heap.size<=g;rw[HG.out];exact Nat.le_refl _,lt_of_block E1,fun j x hx=>?_⟩⟩,B1⟩;rw[Nat.zero_add,cell_of_row _ _ _ _ _ _ E1];rw[List.getElem?_replicate] at hx;split at hx
    ·injection hx with hx
     subst hx;simpa using hat.out j (by omega)
    ·cases hx
   clear hat E1 hyl B1;go_wp2;go_ret;exact HR.out
end Go.Proofs.YtbjdkekhnajafaaGreatDoor
