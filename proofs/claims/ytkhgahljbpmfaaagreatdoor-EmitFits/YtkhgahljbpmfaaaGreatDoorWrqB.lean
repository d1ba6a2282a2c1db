import Derived.Test.YtkhgahljbpmfaaaGreatDoorTrA
set_option maxRecDepth 100000
set_option maxHeartbeats 8000000
namespace Go.Proofs.YtkhgahljbpmfaaaGreatDoor
open Go.ChangeShapes Go.WideShapes Go.ChangeAt Go.RowKit
set_option linter.unusedVariables false
set_option linter.unusedSimpArgs false
def erO (st:Er):Nat:=match st with|some x=>x.1|none=>0
def plO (st:Er):Int:=match st with|some x=>x.2|none=>0
def StOk (st:Er):Prop:=∀ x,st=some x->x.1≠0
structure Wk (w:World)(wb:Nat)(bv:Value)(st:Er):Prop where
 blk:w.heap[wb]?=some (.cells #[bv,.int .i64 (erO st:Nat),.int .i64 (plO st)] 139 (0,0))
 ok:StOk st
theorem StOk.none:StOk none:=fun x h=>by cases h
theorem box3 {w:World}{b:Nat}{a0 a1 a2:Value}{t:TypeId}(h:w.heap[b]?=some (.cells #[a0,a1,a2] t (0,0))):w.cell? ⟨b,0,none⟩=some a0/\w.cell? ⟨b,1,none⟩=some a1/\w.cell? ⟨b,2,none⟩=some a2/\∀ j,w.frozen? ⟨b,j,none⟩=false:=by
 refine⟨?_,?_,?_,fun j=>frozen_of_row w b j _ t h⟩<;>simp[cell_of_row w b _ _ t (0,0) h]
theorem set3 {w:World}{b:Nat}{a0 a1 a2:Value}{t:TypeId}(h:w.heap[b]?=some (.cells #[a0,a1,a2] t (0,0)))(v:Value) :
  (w.setCell ⟨b,0,none⟩ v).heap[b]?=some (.cells #[v,a1,a2] t (0,0))/\(w.setCell ⟨b,1,none⟩ v).heap[b]?=some (.cells #[a0,v,a2] t (0,0))/\(w.setCell ⟨b,2,none⟩ v).heap[b]?=some (.cells #[a0,a1,v] t (0,0)) :=
 ⟨(Blk.set (o:=fun _=>0) (i:=0) ⟨h,rfl⟩ 0 v).1,(Blk.set (o:=fun _=>0) (i:=0) ⟨h,rfl⟩ 1 v).1,(Blk.set (o:=fun _=>0) (i:=0) ⟨h,rfl⟩ 2 v).1⟩
def Nmk (wb:Nat)(w:World)(v:Value)(b:List (List UInt8)):Prop:=Nms w v b/\∀ g off n c,v=.slice (some ⟨g,off,none⟩) n c->g≠wb
theorem Nmk.keep {wb:Nat}{w w':World}{v:Value}{b:List (List UInt8)}(h:Nmk wb w v b)(K:Keep wb w w'):Nmk wb w' v b:=by
 refine⟨?_,h.2⟩;obtain⟨⟨ao,cap,rfl,hc,h1|⟨g,rfl,h2,h0,h3⟩⟩,h4⟩:=h
 ·exact⟨ao,cap,rfl,hc,.inl h1⟩
 ·exact⟨_,cap,rfl,hc,.inr ⟨g,rfl,Nat.lt_of_lt_of_le h2 K.size,h0,fun j t hj=>(K.cell h2 (h4 _ _ _ _ rfl) j).trans (h3 j t hj)⟩⟩
theorem fails13 (w:World)(wb:Nat)(bv:Value)(er:Nat)(a:Int)(her:er≠0)(h:Wk w wb bv none) :
  Calls Tryz.prog 194 #[.pointer (some ⟨wb,0,none⟩),.int .i64 (er:Nat),.int .i64 a] w fun x w'=>x=.returned (.tuple #[])/\Wk w' wb bv (some (er,a))/\Keep wb w w':=by
 have h1:=h.blk;simp only[erO,plO] at h1;obtain⟨c0,c1,c2,cf⟩:=box3 h1;have F1:=(set3 h1 (.int .i64 (er:Nat))).2.1;have F2:=(set3 F1 (.int .i64 a)).2.2;have K:=((Keep.refl wb w).set ⟨wb,1,none⟩ (.int .i64 (er:Nat)) (.inr rfl)).set ⟨wb,2,none⟩ (.int .i64 a) (.inr rfl);have HZ:Hid (Wk ((w.setCell ⟨wb,1,none⟩ (.int .i64 (er:Nat))).setCell ⟨wb,2,none⟩ (.int .i64 a)) wb bv (some (er,a))/\Keep wb w ((w.setCell ⟨wb,1,none⟩ (.int .i64 (er:Nat))).setCell ⟨wb,2,none⟩ (.int .i64 a))) :=
  ⟨⟨F2,fun x hx=>by injection hx with hx;subst hx;exact her⟩,K⟩
 clear h F1 F2 K h1;go_enter Tryz.func194,Tryz.ntmps194;go_wp2
 go_end0
 exact⟨rfl,HZ.out.1,HZ.out.2⟩
def PostNm (w:World)(wb:Nat)(bv:Value)(b:List (List UInt8))(e:Ex)(x:Ending)(w':World):Prop :=
 (∃r,x=.returned (.int .i64 r)/\(e.nm ∈ b->r=3))/\Wk w' wb bv (if e.nm ∈ b then none else some (130,e.a))/\Keep wb w w'
theorem name_q (e:Ex)(ao:Option Addr)(cap:Nat)(w:World)(wb:Nat)(bv:Value)(b:List (List UInt8))(h:Wk w wb bv none)(hn:Nmk wb w bv b)(hl:b.length<=100000) :
  Calls Tryz.prog 137 #[.pointer (some ⟨wb,0,none⟩),exV e ao cap] w (PostNm w wb bv b e):=by
 have B0:Below w.heap.size w (w.alloc (.cells #[.int .i64 e.k,.int .i64 e.n,stv e.nm,.slice ao e.kids.len cap,.int .i64 e.a] 25)):=(Below.refl _ w).alloc (Nat.le_refl _) _;have E0:(w.alloc (.cells #[.int .i64 e.k,.int .i64 e.n,stv e.nm,.slice ao e.kids.len cap,.int .i64 e.a] 25)).heap[w.heap.size]?=some (.cells #[.int .i64 e.k,.int .i64 e.n,stv e.nm,.slice ao e.kids.len cap,.int .i64 e.a] 25):=heap_alloc_new w _;have hwb:=lt_of_block h.blk;have W0:=(B0.block _ hwb).trans h.blk;have N0:=hn.1.below B0;clear h hn;rw[exV_out];go_enter Tryz.func137,Tryz.ntmps137;go_upto_region 1 with fail;generalize w.alloc (.cells #[.int .i64 e.k,.int .i64 e.n,stv e.nm,.slice ao e.kids.len cap,.int .i64 e.a] 25)=w0 at *;obtain⟨bx,hbx⟩:∃bx,bx=w.heap.size:=⟨_,rfl⟩
 rw[<-hbx] at E0 B0 ⊢;have HB:Hid (bx=w.heap.size):=hbx;clear hbx;have hbx0:=lt_of_block E0;have hwb0:=lt_of_block W0;obtain⟨av,capv,rfl,hcv,hp⟩:=N0;simp only[erO,plO] at W0;go_wp2;go_loopw [5] (fun v wr=>∃k:Nat,k<=b.length/\v=.int .i64 (k:Nat)/\Hid (∀ j,j<k->b[j]?≠some e.nm)/\Below w0.heap.size w0 wr) (fun v _=>b.length-(intOf v).toNat)
 case atStart=>exact⟨0,by omega,by go_num,fun j hj=>absurd hj (Nat.not_lt_zero _),Below.refl _ _⟩
 case round =>
  obtain⟨k,hk,rfl,hno,B1⟩:=hrel;have E1:=(B1.block _ hbx0).trans E0;have W1:=(B1.block _ hwb0).trans W0;obtain⟨p0,p1,p2,p3,p4,pf⟩:=box5 E1;obtain⟨q0,q1,q2,qf⟩:=box3 W1;by_cases hlt:k<b.length
  ·have hx:b[k]?=some b[k]:=List.getElem?_eq_getElem hlt;rcases hp with ⟨rfl,-⟩|⟨g,rfl,hg,-,hcell⟩
   ·simp at hlt
   have c1:=(B1.cell (p:=⟨g,k,none⟩) hg).trans (hcell k _ hx);generalize b[k]=x at c1 hx;have hkI:(k:Int)<(b.length:Int):=by omega
   have HX:Hid (b[k]?=some x):=hx;clear hx hcell;by_cases he:x=e.nm
   ·subst he;have hbe:(e.nm==e.nm)=true:=by simp
    have hmem:e.nm ∈ b:=List.mem_of_getElem? HX.out;have FIN:Hid (e.nm ∈ b):=hmem;clear hno HX hmem;go_wp2_with fail
    go_quiet (fail)
    go_wp2;refine bodyPost_ret (v:=.int .i64 3) (by simp[results,Tryz.results137,go_sem]) rfl ⟨⟨3,rfl,fun _=>rfl⟩,?_,?_⟩
    ·rw[if_pos FIN.out];exact⟨W1,StOk.none⟩
    ·refine Keep.ofBelow ?_;rw[<-HB.out];exact B0.trans ((B1.trans (show Below w0.heap.size wr (wr.drewN nq) from ⟨rfl,rfl,rfl,Nat.le_refl _,fun _ _=>rfl⟩)).mono (Nat.le_of_lt hbx0))
   ·have hbe:(x==e.nm)=false:=by simpa using he
    have hn2:Hid (∀ j,j<k+1->b[j]?≠some e.nm):=by
     intro j hj;rcases Nat.lt_succ_iff_lt_or_eq.1 hj with h1|rfl
     ·exact hno.out j h1
     ·rw[HX.out];intro h2;injection h2 with h2
      exact he h2
    clear hno HX he;go_wp2_with fail
    go_quiet (fail)
    have B2:=B1.trans (show Below w0.heap.size wr (wr.drewN nq) from ⟨rfl,rfl,rfl,Nat.le_refl _,fun _ _=>rfl⟩);go_wp2;go_roundw
    case rel=>exact⟨k+1,by omega,by go_num,hn2,B2⟩
    case measure=>simp[intOf];omega
  ·obtain rfl:k=b.length:=by omega
   have FIN:Hid (¬e.nm ∈ b):=by
    intro h1;obtain⟨j,hj,h2⟩:=List.mem_iff_getElem.1 h1;exact hno.out j hj (by rw[List.getElem?_eq_getElem hj,h2])
   have c1:=fails13 wr wb (.slice av b.length capv) 130 e.a (by decide) ⟨W1,StOk.none⟩;clear hno hp;go_wp2_with fail;refine c1.mono ?_;rintro x w3 ⟨rfl,W3,K3⟩;clear c1 p0 p1 p2 p3 p4 pf q0 q1 q2 qf;go_wp2;refine bodyPost_ret (v:=.int .i64 0) (by simp[results,Tryz.results137,go_sem]) rfl ⟨⟨0,rfl,fun h=>absurd h FIN.out⟩,?_,?_⟩
   ·rw[if_neg FIN.out];exact W3
   ·refine(Keep.ofBelow ?_).trans K3;rw[<-HB.out];exact B0.trans (B1.mono (Nat.le_of_lt hbx0))
theorem gives_q (n:Int)(w:World):Calls Tryz.prog 140 #[.int .i64 n] w fun x w'=>x=.returned (.int .i64 (giveT n))/\w'=w:=by
 unfold giveT;by_cases h1:n=1
 ·subst h1;go_enter Tryz.func140,Tryz.ntmps140;go_wp2;go_ret;exact⟨rfl,rfl⟩
 ·by_cases h2:n=2
  ·subst h2;go_enter Tryz.func140,Tryz.ntmps140;go_wp2;go_ret;exact⟨rfl,rfl⟩
  ·rw[if_neg (by omega)];have b1:(n==1)=false:=by simpa using h1
   have b2:(n==2)=false:=by simpa using h2
   by_cases h3:n=10
   ·subst h3;go_enter Tryz.func140,Tryz.ntmps140;go_wp2;go_ret;exact⟨rfl,rfl⟩
   ·rw[if_neg h3];have b3:(n==10)=false:=by simpa using h3
    clear h1 h2 h3;go_enter Tryz.func140,Tryz.ntmps140;go_wp2;go_ret;exact⟨rfl,rfl⟩
theorem body_q (n:Int)(w:World):Calls Tryz.prog 195 #[.int .i64 n] w fun x w'=>x=.returned (.int .i64 (bodyT n))/\w'=w:=by
 unfold bodyT;by_cases h1:n<=3
 ·rw[if_pos h1];go_enter Tryz.func195,Tryz.ntmps195;go_wp2;go_ret;exact⟨rfl,rfl⟩
 ·rw[if_neg h1];go_enter Tryz.func195,Tryz.ntmps195;go_wp2;go_ret;exact⟨rfl,rfl⟩
theorem whole_q (n:Int)(w:World):Calls Tryz.prog 177 #[.int .i64 n] w fun x w'=>x=.returned (.int .i64 (wholeT n))/\w'=w:=by
 unfold wholeT;by_cases h1:n<=2
 ·rw[if_pos h1];go_enter Tryz.func177,Tryz.ntmps177;go_wp2;go_ret;exact⟨rfl,rfl⟩
 ·rw[if_neg h1];go_enter Tryz.func177,Tryz.ntmps177;go_wp2;go_ret;exact⟨rfl,rfl⟩
structure Rt13 (N:Nat)(e:Ex)(nb:Nat):Prop where
 sz:e.kids.size<N
 ok:e.okA
 st:isSetK e.k=false
 sk:e.kids.stk (e.k==21)
 len:e.kids.len<=1000000000
 sh:e.kids.short
 bl:nb+e.kids.size<=3000
def PostKd (w:World)(wb:Nat)(bv:Value)(r:Sum (Nat × Int) Int)(x:Ending)(w':World):Prop :=
 (∃k',x=.returned (.int .i64 k')/\∀ k,r=.inr k->k'=k)/\Wk w' wb bv (stS r)/\Keep wb w w'
def KindOk (N:Nat):Prop:=∀ (e:Ex) (ao:Option Addr) (cap wb:Nat) (bv:Value) (b:List (List UInt8)) (w:World),Rt13 N e b.length->Wk w wb bv none->Nmk wb w bv b->Sl w (Nf wb) e.kids ao ->
 Calls Tryz.prog 88 #[.pointer (some ⟨wb,0,none⟩),exV e ao cap] w (PostKd w wb bv (chkE e b))
def PostMu (w:World)(wb:Nat)(bv:Value)(st:Er)(x:Ending)(w':World):Prop:=x=.returned (.tuple #[])/\Wk w' wb bv st/\Keep wb w w'
theorem Sl.belowF {fb:Nat}{w w':World}{f:Fs}{ao:Option Addr}(h:Sl w (Nf fb) f ao)(b:Below w.heap.size w w'):Sl w' (Nf fb) f ao:=h.mono (fun i _ hl=>b.block i hl) b.size (fun _ h _=>h)
theorem Nmk.below {wb:Nat}{w w':World}{v:Value}{b:List (List UInt8)}(h:Nmk wb w v b)(B:Below w.heap.size w w'):Nmk wb w' v b:=⟨h.1.below B,h.2⟩
theorem Wk.below {w w':World}{wb:Nat}{bv:Value}{st:Er}(h:Wk w wb bv st)(B:Below w.heap.size w w'):Wk w' wb bv st:=⟨(B.block _ (lt_of_block h.blk)).trans h.blk,h.ok⟩
theorem Keep.bel {rb:Nat}{w a b:World}(B:Below w.heap.size w a)(K:Keep rb a b):Keep rb w b:=(Keep.ofBelow B).trans K
theorem must_q {N:Nat}(IH:KindOk N)(e:Ex)(ao:Option Addr)(cap wb:Nat)(bv:Value)(b:List (List UInt8))(m:Int)(st:Er)(w:World)(hr:Rt13 N e b.length)(hm:st=none->m≠0)(h:Wk w wb bv st)(hn:st=none->Nmk wb w bv b)(S:Sl w (Nf wb) e.kids ao) :
  Calls Tryz.prog 138 #[.pointer (some ⟨wb,0,none⟩),exV e ao cap,.int .i64 m] w (PostMu w wb bv (musR st m e b)):=by
 have B0:Below w.heap.size w (w.alloc (.cells #[.int .i64 e.k,.int .i64 e.n,stv e.nm,.slice ao e.kids.len cap,.int .i64 e.a] 25)):=(Below.refl _ w).alloc (Nat.le_refl _) _;have E0:(w.alloc (.cells #[.int .i64 e.k,.int .i64 e.n,stv e.nm,.slice ao e.kids.len cap,.int .i64 e.a] 25)).heap[w.heap.size]?=some (.cells #[.int .i64 e.k,.int .i64 e.n,stv e.nm,.slice ao e.kids.len cap,.int .i64 e.a] 25):=heap_alloc_new w _;have W0:=h.below B0;have S0:=Sl.belowF S B0;have hwb:=lt_of_block h.blk;have N0:=fun hs=>(hn hs).below B0;clear h hn S;rw[exV_out];go_enter Tryz.func138,Tryz.ntmps138;go_upto_region 1 with fail;generalize w.alloc (.cells #[.int .i64 e.k,.int .i64 e.n,stv e.nm,.slice ao e.kids.len cap,.int .i64 e.a] 25)=w0 at *;obtain⟨bx,hbx⟩:∃bx,bx=w.heap.size:=⟨_,rfl⟩
 have hwbx:wb≠bx:=by omega
 rw[<-hbx] at E0 B0 ⊢;have HB:Hid (bx=w.heap.size):=hbx;clear hbx;obtain⟨p0,p1,p2,p3,p4,pf⟩:=box5 E0;obtain⟨q0,q1,q2,qf⟩:=box3 W0.blk;cases st with
 | some z =>
  have hz:=W0.ok z rfl;obtain⟨er,pa⟩:=z;simp only[erO,plO] at q1 q2 hz;have hne:((er:Int) != 0)=true:=by simp;omega
  have HZ:Hid (PostMu w wb bv (musR (some (er,pa)) m e b) (.returned (.tuple #[])) w0):=⟨rfl,W0,Keep.ofBelow (by rw[<-HB.out];exact B0)⟩
  clear W0 N0 S0 hr;go_wp2
  go_end0
  exact HZ.out
 | none =>
  have HM:Hid (m≠0):=hm rfl;simp only[erO,plO] at q1 q2;have c1:=IH e ao cap wb bv b w0 hr W0 (N0 rfl) S0;rw[exV_out] at c1;go_wp2_with fail;refine c1.mono ?_;rintro x w1 ⟨⟨k',rfl,hk'⟩,W1,K1⟩;have E1:=(K1.block _ (lt_of_block E0) (Ne.symm hwbx)).trans E0;have KW:Keep wb w w1:=Keep.bel (by rw[<-HB.out];exact B0) K1;clear c1 p0 p1 p2 p3 p4 pf q0 q1 q2 qf W0 N0 S0 E0 B0 K1;obtain⟨p0,p1,p2,p3,p4,pf⟩:=box5 E1;obtain⟨q0,q1,q2,qf⟩:=box3 W1.blk;cases hc:chkE e b with
  | inl z =>
   obtain⟨er,pa⟩:=z;have her:=chkE_er hc;rw[hc] at W1 q1 q2;simp only[stS,erO,plO] at q1 q2;have hne:((er:Int)==0)=false:=by simp;omega
   have HZ:Hid (PostMu w wb bv (musR none m e b) (.returned (.tuple #[])) w1):=⟨rfl,by unfold musR;simp only;rw[hc];exact W1,KW⟩
   clear W1 hr hc hk' her KW;go_wp2
   go_end0
   exact HZ.out
  | inr k =>
   obtain rfl:=hk' k hc;rw[hc] at W1 q1 q2;simp only[stS,erO,plO] at q1 q2 W1;by_cases hkm:k'=m
   ·have hne:(k' != m)=false:=by simpa using hkm
    have HZ:Hid (PostMu w wb bv (musR none m e b) (.returned (.tuple #[])) w1):=by
     refine⟨rfl,?_,KW⟩;unfold musR;simp only;rw[hc];simp only[mustT];rw[if_neg (fun h=>h.2 hkm)];exact W1
    clear W1 hr hc hk' KW hkm;go_wp2
    go_end0
    exact HZ.out
   ·have hne:(k' != m)=true:=by simpa using hkm
    have c2:=fails13 w1 wb bv 131 e.a (by decide) W1;have hmu:Hid (musR none m e b=some (131,e.a)):=by
     show _=_;unfold musR;simp only;rw[hc];simp only[mustT];rw[if_pos ⟨HM.out,hkm⟩];rfl
    clear W1 hr hc hk' hkm;go_wp2_with fail;refine c2.mono ?_;rintro x w3 ⟨rfl,W3,K3⟩;have HZ:Hid (PostMu w wb bv (musR none m e b) (.returned (.tuple #[])) w3):=⟨rfl,by rw[hmu.out];exact W3,KW.trans K3⟩
    clear c2 W3 K3 KW;go_wp2
    go_end0
    exact HZ.out
theorem binary_q {N:Nat}(IH:KindOk N)(e x y:Ex)(ao:Option Addr)(cap wb:Nat)(bv:Value)(b:List (List UInt8))(m g:Int)(w:World)(hk:e.kids=Fs.ex x (Fs.ex y .nil))(hx:Rt13 N x b.length)(hy:Rt13 N y b.length)(hm:m≠0)(h:Wk w wb bv none)(hn:Nmk wb w bv b)(S:Sl w (Nf wb) e.kids ao) :
  Calls Tryz.prog 139 #[.pointer (some ⟨wb,0,none⟩),exV e ao cap,.int .i64 m,.int .i64 g] w fun z w'=>z=.returned (.int .i64 g)/\Wk w' wb bv (musR (musR none m x b) m y b)/\Keep wb w w':=by
 have hlen:e.kids.len=2:=by rw[hk];rfl
 have HK:Hid (e.kids=Fs.ex x (Fs.ex y .nil)):=hk;have HL:Hid (e.kids.len=2):=hlen;clear hk hlen;have B0:Below w.heap.size w (w.alloc (.cells #[.int .i64 e.k,.int .i64 e.n,stv e.nm,.slice ao e.kids.len cap,.int .i64 e.a] 25)):=(Below.refl _ w).alloc (Nat.le_refl _) _;have E0:(w.alloc (.cells #[.int .i64 e.k,.int .i64 e.n,stv e.nm,.slice ao e.kids.len cap,.int .i64 e.a] 25)).heap[w.heap.size]?=some (.cells #[.int .i64 e.k,.int .i64 e.n,stv e.nm,.slice ao e.kids.len cap,.int .i64 e.a] 25):=heap_alloc_new w _;have W0:=h.below B0;have S0:=Sl.belowF S B0;have hwb:=lt_of_block h.blk;have N0:=hn.below B0;clear h hn S;rw[exV_out];go_enter Tryz.func139,Tryz.ntmps139;go_upto_region 1 with fail;generalize w.alloc (.cells #[.int .i64 e.k,.int .i64 e.n,stv e.nm,.slice ao e.kids.len cap,.int .i64 e.a] 25)=w0 at *;obtain⟨bx,hbx⟩:∃bx,bx=w.heap.size:=⟨_,rfl⟩
 have hwbx:wb≠bx:=by omega
 rw[<-hbx] at E0 B0 ⊢;have HB:Hid (bx=w.heap.size):=hbx;clear hbx;rw[HL.out] at E0 ⊢;obtain⟨p0,p1,p2,p3,p4,pf⟩:=box5 E0;have S0x:Sl w0 (Nf wb) (Fs.nil.app (Fs.ex x (Fs.ex y .nil))) ao:=by rw[HK.out] at S0;exact S0
 obtain⟨kb,off,ak,ck,hao,x0,x1,x2,x3,x4,SK⟩:=Sl.kidP S0x 0 rfl;subst hao;simp only[Nat.zero_mul,Nat.add_zero] at x0 x1 x2 x3 x4;have c1:=must_q IH x ak ck wb bv b m none w0 hx (fun _=>hm) W0 (fun _=>N0) SK;rw[exV_out] at c1;go_wp2_with fail;refine c1.mono ?_;rintro z w1 ⟨rfl,W1,K1⟩;have E1:=(K1.block _ (lt_of_block E0) (Ne.symm hwbx)).trans E0;have S1:Sl w1 (Nf wb) ((Fs.ex x .nil).app (Fs.ex y .nil)) (some ⟨kb,off,none⟩):=by
  have:=Sl.keepF S0 K1
  rw[HK.out] at this;exact this
 have N1:=N0.keep K1;have KW:Keep wb w w1:=Keep.bel (by rw[<-HB.out];exact B0) K1;clear c1 p0 p1 p2 p3 p4 pf x0 x1 x2 x3 x4 SK S0x S0 W0 N0 E0 B0 K1;obtain⟨p0,p1,p2,p3,p4,pf⟩:=box5 E1;obtain⟨kb',off',ak,ck,hao,x0,x1,x2,x3,x4,SK⟩:=Sl.kidP S1 1 rfl;injection hao with hao
 injection hao with h1 h2
 subst h1;subst h2;have c2:=must_q IH y ak ck wb bv b m _ w1 hy (fun _=>hm) W1 (fun _=>N1) SK;rw[exV_out] at c2;go_wp2_with fail;refine c2.mono ?_;rintro z w2 ⟨rfl,W2,K2⟩;have HZ:Hid (Wk w2 wb bv (musR (musR none m x b) m y b)/\Keep wb w w2):=⟨W2,KW.trans K2⟩
 clear c2 W2 K2 KW p0 p1 p2 p3 p4 pf x0 x1 x2 x3 x4 SK S1 W1 N1 E1;go_wp2;refine bodyPost_ret (v:=.int .i64 g) (by simp[results,Tryz.results139,go_sem]) rfl ⟨rfl,HZ.out.1,HZ.out.2⟩
theorem app_okA2:∀ {x y:Fs},(x.app y).okA->y.okA
 | ⟨none⟩,y,h=>h
 | ⟨some ⟨k,n,nm,a,ks,r⟩⟩,y,h=>app_okA2 h.2.2
theorem app_nil13:∀ (x:Fs),x.app .nil=x
 | ⟨none⟩=>rfl
 | ⟨some ⟨k,n,nm,a,ks,r⟩⟩=>by simp only[Fs.app];rw[app_nil13 r]
def Kds (N:Nat)(f:Fs)(nb:Nat):Prop:=∀ (d r:Fs) (y:Ex),f=d.app (Fs.ex y r)->Rt13 N y nb
theorem Fs.app_stk:∀ {x y:Fs}{first:Bool},(x.app y).stk first->x.len≠0->y.stk false
 | ⟨none⟩,y,first,h,h0=>absurd rfl h0
 | ⟨some ⟨k,n,nm,a,ks,⟨none⟩⟩⟩,y,first,h,h0=>h.2.2
 | ⟨some ⟨k,n,nm,a,ks,⟨some r⟩⟩⟩,y,first,h,h0=>Fs.app_stk (x:=⟨some r⟩) h.2.2 (by simp[Fs.len])
theorem Fs.app_stkF {x y:Fs}(h:(x.app y).stk false):y.stk false:=by
 by_cases h0:x.len=0
 ·cases x using Fs.on with
  | nil=>exact h
  | cons k n nm a ks r=>simp[Fs.len] at h0
 ·exact Fs.app_stk h h0
theorem Kds.of {N:Nat}{f:Fs}{nb:Nat}(hs:f.size<=N)(hok:f.okA)(hsk:f.stk false)(hsh:f.short)(hbl:nb+f.size<=3000):Kds N f nb:=by
 intro d r y hf;subst hf;rw[Fs.size_app,size_ex] at hs hbl;have h1:=Fs.app_short hsh;have h2:=Fs.app_stkF hsk;have h3:(Fs.ex y r).okA:=app_okA2 hok;exact⟨by omega,(okA_ex h3).1,h2.1,h2.2.1,h1.2.1,h1.2.2.1,by omega⟩
theorem quant13 {N:Nat}(IH:KindOk N)(e s x:Ex)(ao:Option Addr)(cap wb:Nat)(bv:Value)(b:List (List UInt8))(w:World)(hk:e.kids=Fs.ex s (Fs.ex x .nil))(hs:Kds N s.kids b.length)(hsl:s.kids.len<=1000000000)(hx:Rt13 N x (b.length+1))(h:Wk w wb bv none)(hn:Nmk wb w bv b)(S:Sl w (Nf wb) e.kids ao) :
  Calls Tryz.prog 141 #[.pointer (some ⟨wb,0,none⟩),exV e ao cap] w fun z w'=>z=.returned (.int .i64 (wholeT e.n))/\Wk w' wb bv (musR (musL s.kids none b) (bodyT e.n) x (b++[e.nm]))/\Keep wb w w':=by
 obtain⟨ii,hii,hzi0,hzi1,hzi2⟩:=info_parts infoStrT;have hlen:e.kids.len=2:=by rw[hk];rfl
 have HK:Hid (e.kids=Fs.ex s (Fs.ex x .nil)):=hk;have HL:Hid (e.kids.len=2):=hlen;clear hk hlen;have B0:Below w.heap.size w (w.alloc (.cells #[.int .i64 e.k,.int .i64 e.n,stv e.nm,.slice ao e.kids.len cap,.int .i64 e.a] 25)):=(Below.refl _ w).alloc (Nat.le_refl _) _;have E0:(w.alloc (.cells #[.int .i64 e.k,.int .i64 e.n,stv e.nm,.slice ao e.kids.len cap,.int .i64 e.a] 25)).heap[w.heap.size]?=some (.cells #[.int .i64 e.k,.int .i64 e.n,stv e.nm,.slice ao e.kids.len cap,.int .i64 e.a] 25):=heap_alloc_new w _;have W0:=h.below B0;have S0:=Sl.belowF S B0;have hwb:=lt_of_block h.blk;have N0:=hn.below B0;clear h hn S;rw[exV_out];go_enter Tryz.func141,Tryz.ntmps141;go_upto_region 1 with fail;generalize w.alloc (.cells #[.int .i64 e.k,.int .i64 e.n,stv e.nm,.slice ao e.kids.len cap,.int .i64 e.a] 25)=w0 at *;obtain⟨bx,hbx⟩:∃bx,bx=w.heap.size:=⟨_,rfl⟩
 have hwbx:wb≠bx:=by omega
 rw[<-hbx] at E0 B0 ⊢;have HB:Hid (bx=w.heap.size):=hbx;clear hbx;rw[HL.out] at E0 ⊢;obtain⟨p0,p1,p2,p3,p4,pf⟩:=box5 E0;have S0x:Sl w0 (Nf wb) (Fs.nil.app (Fs.ex s (Fs.ex x .nil))) ao:=by rw[HK.out] at S0;exact S0
 obtain⟨kb,off,as',cs',hao,x0,x1,x2,x3,x4,SK⟩:=Sl.kidP S0x 0 rfl;subst hao;simp only[Nat.zero_mul,Nat.add_zero] at x0 x1 x2 x3 x4
 -- the set's box
 have B1:Below w0.heap.size w0 (w0.alloc (.cells #[.int .i64 s.k,.int .i64 s.n,stv s.nm,.slice as' s.kids.len cs',.int .i64 s.a] 25)):=(Below.refl _ w0).alloc (Nat.le_refl _) _;have Z1:(w0.alloc (.cells #[.int .i64 s.k,.int .i64 s.n,stv s.nm,.slice as' s.kids.len cs',.int .i64 s.a] 25)).heap[w0.heap.size]?=some (.cells #[.int .i64 s.k,.int .i64 s.n,stv s.nm,.slice as' s.kids.len cs',.int .i64 s.a] 25):=heap_alloc_new w0 _;have E1:=(B1.block _ (lt_of_block E0)).trans E0;have W1:=W0.below B1;have N1:=N0.below B1;have S1:=Sl.belowF S0 B1;have SK1:=Sl.belowF SK B1;have hwb1:wb<w0.heap.size:=lt_of_block W0.blk;go_upto_region 2 with fail;generalize w0.alloc (.cells #[.int .i64 s.k,.int .i64 s.n,stv s.nm,.slice as' s.kids.len cs',.int .i64 s.a] 25)=w1 at *;obtain⟨sb,hsb⟩:∃sb,sb=w0.heap.size:=⟨_,rfl⟩
 have hwsb:wb≠sb:=by omega
 rw[<-hsb] at Z1 ⊢;have BW1:Below bx w w1:=B0.trans (B1.mono (Nat.le_of_lt (lt_of_block E0)));clear hsb p0 p1 p2 p3 p4 pf x0 x1 x2 x3 x4 S0x S0 W0 N0 E0 B0 B1 SK;go_wp2;go_loopw [6] (fun v wr=>∃(d r:Fs),Hid (s.kids=d.app r)/\v=.int .i64 (d.len:Nat)/\Wk wr wb bv (musL d none b)/\Keep wb w1 wr) (fun v _=>s.kids.len-(intOf v).toNat)
 case atStart=>exact⟨.nil,s.kids,rfl,by show _=Value.int .i64 ((0:Nat):Int);rfl,W1,Keep.refl _ _⟩
 case round =>
  obtain⟨d,r,hf,rfl,W2,K2⟩:=hrel;have hlk:s.kids.len=d.len+r.len:=by rw[hf.out,Fs.len_app]
  have Z2:=(K2.block _ (lt_of_block Z1) (Ne.symm hwsb)).trans Z1;have E2:=(K2.block _ (lt_of_block E1) (Ne.symm hwbx)).trans E1;obtain⟨p0,p1,p2,p3,p4,pf⟩:=box5 Z2;cases r using Fs.on with
  | nil =>
   have hl0:¬(d.len:Int)<(s.kids.len:Int):=by simp only[Fs.len] at hlk;omega
   have hdn:s.kids=d:=by rw[hf.out];clear hf hlk hl0 W2;exact app_nil13 d
   have W2':Wk wr wb bv (musL s.kids none b):=by rw[hdn];exact W2
   generalize hst:musL s.kids none b=st at W2';have HST:Hid (musL s.kids none b=st):=hst;have N2:=N1.keep K2;have S2:=Sl.keepF S1 K2;have KW2:Keep wb w wr:=Keep.bel (by rw[<-HB.out];exact BW1) K2;obtain⟨⟨av,capv,rfl,hcv,hp⟩,hpb⟩:=N2;obtain⟨q0,q1,q2,qf⟩:=box3 W2'.blk;clear hf hlk hdn hst W2 N1 S1 SK1 K2 W1 Z1 E1 BW1 hs;go_upto_region 8 with fail;go_cut [8] (fun v wx=>∃ao' cap' o',v=.slice ao' b.length cap'/\Row wx o' 1 9 1 v b.length (b.map fun x=>stv x)/\Step I1n wr (fun _=>0) wx o')
   case first =>
    rcases hp with ⟨hb0,rfl⟩|⟨g,rfl,hg,hpos,hcell⟩
    ·subst hb0;go_wp2;go_meet;exact⟨none,0,fun _=>0,by first|rfl|simp,Row.nil _ _ _ _ _,Step.refl _ _ _⟩
    ·have hnews:∀ j u,(b.map fun x=>stv x)[j]?=some u->wr.cell? ((⟨g,0,none⟩:Addr).add j)=some u:=fun j u hj=>by
      rw[List.getElem?_map] at hj;cases hb:b[j]? with
      | none=>rw[hb] at hj;cases hj
      | some t =>
       rw[hb] at hj;injection hj with hj
       subst hj;have h3:((⟨g,0,none⟩:Addr).add j)=⟨g,j,none⟩:=by simp[Addr.add];exact Eq.symm
       rw[h3];exact hcell j t hb
     have hone:∀ u ∈ (b.map fun x=>stv x),u.oneCell'=true:=fun u hu=>by
      obtain⟨x,_,rfl⟩:=List.mem_map.1 hu;rfl
     have hlb:(b.map fun x=>stv x).length=b.length:=List.length_map _;have hbl:=hx.bl;generalize (b.map fun x=>stv x)=xs at *;clear hcell;go_wp2_with (first|(at_builtin;refine wpList_append_lab rfl (.tmp 31) (.tmp 32) 40 rfl 9 ii (.string ⟨#[]⟩) 1 16 Tryz.underlying40 hii hzi0 hzi1 hzi2 rfl (by decide) (fun _=>0) 1 _ 0 [] rfl (Row.nil _ _ _ _ _) ⟨g,0,none⟩ b.length capv xs rfl (by first|omega|(rw[hlb];omega)) hnews hone (by omega) ?c3 ?c4 ?_)|go_in)
     case c3=>unfold maxLen;omega
     case c4=>omega
     intro g7 c7 w7 o7 r7 s7;have HS:Hid (Step I1n wr (fun _=>0) w7 o7/\Row w7 o7 1 9 1 (.slice (some ⟨g7,0,none⟩) b.length c7) b.length xs):=⟨s7,by simpa using r7⟩
     clear s7 r7 hnews hone;go_wp2;go_meet;exact⟨some ⟨g7,0,none⟩,c7,o7,by simp,HS.out.2,HS.out.1⟩
   case rest =>
    obtain⟨ao8,cap8,o8,rfl,R8,s8⟩:=hcut;have B8:Below wr.heap.size wr wc:=s8.below (fun _ _=>by decide);have E8:=(B8.block _ (lt_of_block E2)).trans E2;have W8:=W2'.below B8;have L8:Hid (∀ k,k<wr.heap.size->o8 k=0):=fun k hk=>s8.lab k hk;have hwbr:wb<wr.heap.size:=lt_of_block W2'.blk;clear q0 q1 q2 qf p0 p1 p2 p3 p4 pf;obtain⟨p0,p1,p2,p3,p4,pf⟩:=box5 E8;obtain⟨q0,q1,q2,qf⟩:=box3 W8.blk;have s10:=boxStep (fun _=>False) wc o8 (.cells #[stv e.nm] 9);have R10:=R8.step s10 id;have hrc:wr.heap.size<=wc.heap.size:=B8.size;have L10:Hid (∀ k,k<wr.heap.size->newLab wc o8 0 k=0):=fun k hk=>by rw[newLab_old (by omega)];exact L8.out k hk
    have hbl:=hx.bl;have b1:b.length+1<=maxLen:=by unfold maxLen;omega
    have b2:(b.length+1)*16<=140737488355328:=by omega
    have hone:∀ u ∈ [stv e.nm],u.oneCell'=true:=by intro u hu;simp at hu;subst hu;rfl
    go_upto_region 9 with fail;go_cut [] (fun wx=>∃g11 c11,Wk wx wb (.slice (some ⟨g11,0,none⟩) (b.length+1) c11) st/\Nmk wb wx (.slice (some ⟨g11,0,none⟩) (b.length+1) c11) (b++[e.nm])/\Keep wb wr wx)
    case first =>
     go_wp2_with (first|(at_builtin;refine wpList_append_lab rfl (.tmp 35) (.tmp 38) 40 rfl 9 ii (.string ⟨#[]⟩) 1 16 Tryz.underlying40 hii hzi0 hzi1 hzi2 rfl (by decide) (newLab wc o8 0) 1 _ b.length (b.map fun x=>stv x) rfl R10 ⟨wc.heap.size,0,none⟩ 1 1 [stv e.nm] rfl rfl (new_one wc _ _) hone (by decide) b1 b2 ?_)|go_in);intro g11 c11 w11 o11 r11 s11;have B11:Below wr.heap.size wr w11:=below_stepT (below_stepT B8 s10 (fun _ _=>id) (Nat.le_refl _)) s11 (fun k hk=>by show ¬_=1;rw[L10.out k hk];decide) (Nat.le_refl _);have W11:=W2'.below B11;have hgo:o11 g11=1:=r11.2 g11 rfl;have hwo:o11 wb=0:=(s11.lab wb (by simp;omega)).trans (L10.out wb hwbr);have hgw:g11≠wb:=by intro h;rw[h] at hgo;omega
     have NM11:Nms w11 (.slice (some ⟨g11,0,none⟩) (b.length+1) c11) (b++[e.nm]):=Nms.ofRow (by rw[List.map_append];exact r11) (by simp) (by omega);have K12:Keep wb wr (w11.setCell ⟨wb,0,none⟩ (.slice (some ⟨g11,0,none⟩) (b.length+1) c11)):=(Keep.ofBelow B11).set ⟨wb,0,none⟩ _ (.inr rfl);have HZ:Hid (Wk (w11.setCell ⟨wb,0,none⟩ (.slice (some ⟨g11,0,none⟩) (b.length+1) c11)) wb (.slice (some ⟨g11,0,none⟩) (b.length+1) c11) st/\Nmk wb (w11.setCell ⟨wb,0,none⟩ (.slice (some ⟨g11,0,none⟩) (b.length+1) c11)) (.slice (some ⟨g11,0,none⟩) (b.length+1) c11) (b++[e.nm])/\Keep wb wr (w11.setCell ⟨wb,0,none⟩ (.slice (some ⟨g11,0,none⟩) (b.length+1) c11))):=by
      refine⟨⟨(set3 W11.blk _).1,W11.ok⟩,Nmk.keep ⟨NM11,fun g off n c h=>by injection h with h1;injection h1 with h1;injection h1 with h1;rw[<-h1];exact hgw⟩ ((Keep.refl wb w11).set ⟨wb,0,none⟩ _ (.inr rfl)),K12⟩
     obtain⟨t0,t1,t2,tf⟩:=box3 W11.blk;clear s11 r11 B11 hgo hwo hgw NM11 K12 W11 p0 p1 p2 p3 p4 pf q0 q1 q2 qf;go_wp2;go_meet;exact⟨g11,c11,HZ.out.1,HZ.out.2.1,HZ.out.2.2⟩
    case rest =>
     obtain⟨g11,c11,W12,N12,K12⟩:=hcut;have E12:=(K12.block _ (lt_of_block E2) (Ne.symm hwbx)).trans E2;have S12:Sl wc (Nf wb) ((Fs.ex s .nil).app (.cons x.k x.n x.nm x.a x.kids .nil)) (some ⟨kb,off,none⟩):=by
      have:=Sl.keepF S2 K12
      rw[HK.out] at this;exact this
     have KW12:=KW2.trans K12;clear p0 p1 p2 p3 p4 pf q0 q1 q2 qf R8 s8 B8 E8 W8 L8 s10 R10 hrc L10 b1 b2 hone E2 S2 W2' hp hpb hcv KW2 K12 Z2;obtain⟨p0,p1,p2,p3,p4,pf⟩:=box5 E12;obtain⟨kb',off',ak,ck,hao,hk13,hkw,x0,x1,x2,x3,x4,SK⟩:=Sl.kidQ S12;injection hao with hao
     injection hao with h1 h2
     subst h1;subst h2;simp only[Fs.len,Fs.ex,Nat.zero_add,Nat.one_mul] at x0 x1 x2 x3 x4;have hb13:=lt_of_block E12;have hx':Rt13 N x (b++[e.nm]).length:=by rw[List.length_append];exact hx
     have hbo:bodyT e.n≠0:=by unfold bodyT;split<;>omega
     have bdT:Below wc.heap.size wc wc.drew:=⟨rfl,rfl,rfl,Nat.le_refl _,fun _ _=>rfl⟩
     have c3:=must_q IH x ak ck wb _ (b++[e.nm]) (bodyT e.n) st wc.drew hx' (fun _=>hbo) (W12.below bdT) (fun _=>N12.below bdT) (Sl.belowF SK bdT);rw[exV_out] at c3;have hbq:=fun wy=>body_q e.n wy;obtain⟨bo,hbo'⟩:∃bo,bo=bodyT e.n:=⟨_,rfl⟩
     rw[<-hbo'] at c3 hbq;have HBO:Hid (bodyT e.n=bo):=hbo'.symm;clear hbo' hbo;go_upto_region 10 with fail;go_cut [] (fun wx=>Wk wx wb (.slice (some ⟨g11,0,none⟩) (b.length+1) c11) (musR st bo x (b++[e.nm]))/\Keep wb wc wx)
     case first =>
      go_wp2_with fail;go_region_held3 (fun wx=>wx.cell? ⟨bx,1,none⟩=some (.int .i64 e.n)/\wx.cell? ⟨bx,3,none⟩=some (.slice (some ⟨kb,off,none⟩) 2 cap)/\wx.cell? ⟨kb,off+5,none⟩=some (.int .i64 x.k)/\wx.cell? ⟨kb,off+5+1,none⟩=some (.int .i64 x.n)/\wx.cell? ⟨kb,off+5+2,none⟩=some (stv x.nm)/\wx.cell? ⟨kb,off+5+3,none⟩=some (.slice ak x.kids.len ck)/\wx.cell? ⟨kb,off+5+4,none⟩=some (.int .i64 x.a))
       (first|exact KA|go_keep)
       (first
        | (go_at_call 195;refine(hbq _).mono ?_;rintro z w3 ⟨rfl,rfl⟩)
        | (go_at_call 138;refine c3.mono ?_;rintro z w3 ⟨rfl,W3,K3⟩;have KA:w3.cell? ⟨bx,1,none⟩=some (.int .i64 e.n)/\w3.cell? ⟨bx,3,none⟩=some (.slice (some ⟨kb,off,none⟩) 2 cap)/\w3.cell? ⟨kb,off+5,none⟩=some (.int .i64 x.k)/\w3.cell? ⟨kb,off+5+1,none⟩=some (.int .i64 x.n)/\w3.cell? ⟨kb,off+5+2,none⟩=some (stv x.nm)/\w3.cell? ⟨kb,off+5+3,none⟩=some (.slice ak x.kids.len ck)/\w3.cell? ⟨kb,off+5+4,none⟩=some (.int .i64 x.a):=⟨(K3.cell hb13 (Ne.symm hwbx) _).trans p1,(K3.cell hb13 (Ne.symm hwbx) _).trans p3,(K3.cell hk13 hkw _).trans x0,(K3.cell hk13 hkw _).trans x1,(K3.cell hk13 hkw _).trans x2,(K3.cell hk13 hkw _).trans x3,(K3.cell hk13 hkw _).trans x4⟩))
      all_goals (
       have HZ:Hid (Wk w3 wb (.slice (some ⟨g11,0,none⟩) (b.length+1) c11) (musR st bo x (b++[e.nm]))/\Keep wb wc w3):=⟨W3,Keep.bel bdT K3⟩
       clear KA W3 K3 c3 hbq;go_wp2;go_meet;exact HZ.out)
     case rest =>
      obtain⟨W13,K13⟩:=hcut;have E13:=(K13.block _ hb13 (Ne.symm hwbx)).trans E12;have KW13:=KW12.trans K13;have W14:Wk (wc.setCell ⟨wb,0,none⟩ (.slice av b.length capv)) wb (.slice av b.length capv) (musR st bo x (b++[e.nm])):=⟨(set3 W13.blk _).1,W13.ok⟩
      have K14:=KW13.trans ((Keep.refl wb wc).set ⟨wb,0,none⟩ (.slice av b.length capv) (.inr rfl));have E14:=(heap_setCell_other wc ⟨wb,0,none⟩ bx (.slice av b.length capv) (Ne.symm hwbx)).trans E13;obtain⟨q0,q1,q2,qf⟩:=box3 W13.blk;clear c3 hbq x0 x1 x2 x3 x4 SK S12 p0 p1 p2 p3 p4 pf E13 E12 KW12 KW13 K13 N12 W12 bdT W13;go_upto_region 12 with fail;generalize wc.setCell ⟨wb,0,none⟩ (.slice av b.length capv)=w14 at *;obtain⟨p0,p1,p2,p3,p4,pf⟩:=box5 E14;have c5:=whole_q e.n w14;obtain⟨wo,hwo⟩:∃wo,wo=wholeT e.n:=⟨_,rfl⟩
      rw[<-hwo] at c5;have HWO:Hid (wholeT e.n=wo):=hwo.symm;clear hwo;go_wp2_with fail;refine c5.mono ?_;rintro z w15 ⟨rfl,rfl⟩;have HZ:Hid (Wk w15 wb (.slice av b.length capv) (musR st bo x (b++[e.nm]))/\Keep wb w w15):=⟨W14,K14⟩
      clear c5 W14 K14;go_wp2;refine bodyPost_ret (v:=.int .i64 wo) (by simp[results,Tryz.results141,go_sem]) rfl ⟨by first|rfl|rw[HWO.out],by rw[HST.out,HBO.out];exact HZ.out.1,HZ.out.2⟩
  | cons kk kn km ka kks kr =>
   have hl0:(d.len:Int)<(s.kids.len:Int):=by simp only[Fs.len] at hlk;omega
   have hl1:d.len<s.kids.len:=by simp only[Fs.len] at hlk;omega
   have SK2:Sl wr (Nf wb) (d.app (Fs.ex ⟨kk,kn,km,ka,kks⟩ kr)) as':=by
    have:=Sl.keepF SK1 K2
    rw[hf.out] at this;exact this
   obtain⟨gb,go,ak,ck,hao,x0,x1,x2,x3,x4,SKK⟩:=Sl.kidP SK2 d.len rfl;subst hao;have c1:=must_q IH ⟨kk,kn,km,ka,kks⟩ ak ck wb bv b 3 _ wr (hs d kr _ hf.out) (fun _=>by decide) W2 (fun _=>N1.keep K2) SKK;rw[exV_out] at c1;simp only at c1 x0 x1 x2 x3 x4;have hf2:Hid (s.kids=(d.snoc ⟨kk,kn,km,ka,kks⟩).app kr):=by show s.kids=_;rw[hf.out];unfold Fs.snoc;rw[Fs.app_assoc];rfl
   have hl2:(d.len:Int)+1=((d.snoc ⟨kk,kn,km,ka,kks⟩).len:Nat):=by rw[Fs.len_snoc];rfl
   clear hf hlk SK2 SKK;go_wp2_with fail;refine c1.mono ?_;rintro z w3 ⟨rfl,W3,K3⟩;have W4:Wk w3 wb bv (musL (d.snoc ⟨kk,kn,km,ka,kks⟩) none b):=by rw[musL_snoc];exact W3
   have K4:=K2.trans K3;clear c1 W3 K3 W2 K2 p0 p1 p2 p3 p4 pf x0 x1 x2 x3 x4 Z2 E2;go_wp2;go_roundw
   case rel=>exact⟨_,kr,hf2,by rw[<-hl2],W4,K4⟩
   case measure=>simp[intOf];omega
theorem postKd {w w':World}{wb:Nat}{bv:Value}{st:Er}{g:Int}{r:Sum (Nat × Int) Int}(hc:r=resR st g)(W:Wk w' wb bv st)(K:Keep wb w w'):PostKd w wb bv r (.returned (.int .i64 g)) w':=by
 subst hc;cases st with
 | some x=>exact⟨⟨g,rfl,fun k h=>by cases h⟩,W,K⟩
 | none=>exact⟨⟨g,rfl,fun k h=>by injection h⟩,W,K⟩
theorem postKe {w w':World}{wb:Nat}{bv:Value}{x:Nat × Int}{g:Int}{r:Sum (Nat × Int) Int}(hc:r=.inl x)(W:Wk w' wb bv (some x))(K:Keep wb w w'):PostKd w wb bv r (.returned (.int .i64 g)) w':=by
 subst hc;exact⟨⟨g,rfl,fun k h=>by cases h⟩,W,K⟩
theorem len0:∀ {f:Fs},f.len=0->f=.nil
 | ⟨none⟩,_=>rfl
 | ⟨some ⟨k,n,nm,a,ks,r⟩⟩,h=>by simp[Fs.len] at h
theorem chk_name {n:Int}{nm:List UInt8}{a:Int}{b:List (List UInt8)}:chkE ⟨4,n,nm,a,.nil⟩ b=if nm ∈ b then .inr 3 else .inl (130,a):=by
 unfold chkE;by_cases h:nm ∈ b
 ·rw[if_neg (fun h2=>h2.2 h),if_pos h];rfl
 ·rw[if_pos ⟨rfl,h⟩,if_neg h]
theorem Rt13.kids {N:Nat}{k n:Int}{nm:List UInt8}{a:Int}{f:Fs}{nb:Nat}(h:Rt13 (N+1) ⟨k,n,nm,a,f⟩ nb)(hk:k≠21):Kds N f nb :=
 Kds.of (by have:=h.sz;simp only at this;omega) h.ok.2 (by have:=h.sk;simp only at this;rw[show (k==21)=false by simpa using hk] at this;exact this) h.sh (by have:=h.bl;simp only at this;omega)
theorem postNm {w w':World}{wb:Nat}{bv:Value}{b:List (List UInt8)}{n:Int}{nm:List UInt8}{a:Int}{r:Int}{x:Sum (Nat × Int) Int}(hc:x=chkE ⟨4,n,nm,a,.nil⟩ b)(h3:nm ∈ b->r=3)(W:Wk w' wb bv (if nm ∈ b then none else some (130,a)))(K:Keep wb w w'):PostKd w wb bv x (.returned (.int .i64 r)) w':=by
 subst hc;rw[chk_name];by_cases h:nm ∈ b
 ·rw[if_pos h] at W ⊢;obtain rfl:=h3 h;exact⟨⟨3,rfl,fun k h=>by injection h⟩,W,K⟩
 ·rw[if_neg h] at W ⊢;exact⟨⟨r,rfl,fun k h=>by cases h⟩,W,K⟩
theorem kind_step {N:Nat}(IH:KindOk N):KindOk (N+1):=by
 intro e ao cap wb bv b w hr h hn S;obtain⟨k0,n,nm,a,f⟩:=e;have hok:=hr.ok.1;have ho:=okR_of hok;have hkb:=hok.2.2.1;have hst:=hr.st;simp only at ho hkb hst;have hkk:k0=1\/k0=2\/k0=3\/k0=4\/k0=6\/k0=7\/k0=8\/k0=9\/k0=10\/k0=11\/k0=12\/k0=13\/k0=14\/k0=15\/k0=16\/k0=17\/k0=18\/k0=19\/k0=20\/k0=21:=by
  have h1:=okR_kind ho;have h2:k0≠22/\k0≠23/\k0≠24/\k0≠25:=by
   unfold isSetK at hst;simp at hst;omega
  omega
 obtain⟨W,hW⟩:∃W,W=chkE ⟨k0,n,nm,a,f⟩ b:=⟨_,rfl⟩
 rw[<-hW];have HW:Hid (W=chkE ⟨k0,n,nm,a,f⟩ b):=hW;clear hW hok hst;have B0:Below w.heap.size w (w.alloc (.cells #[.int .i64 k0,.int .i64 n,stv nm,.slice ao f.len cap,.int .i64 a] 25)):=(Below.refl _ w).alloc (Nat.le_refl _) _;have E0:(w.alloc (.cells #[.int .i64 k0,.int .i64 n,stv nm,.slice ao f.len cap,.int .i64 a] 25)).heap[w.heap.size]?=some (.cells #[.int .i64 k0,.int .i64 n,stv nm,.slice ao f.len cap,.int .i64 a] 25):=heap_alloc_new w _;have W0:=h.below B0;have S0:=Sl.belowF S B0;have hwb:=lt_of_block h.blk;have N0:=hn.below B0;clear h hn S;rw[exV_out];go_enter Tryz.func88,Tryz.ntmps88;go_upto_region 1 with fail;generalize w.alloc (.cells #[.int .i64 k0,.int .i64 n,stv nm,.slice ao f.len cap,.int .i64 a] 25)=w0 at *;obtain⟨bx,hbx⟩:∃bx,bx=w.heap.size:=⟨_,rfl⟩
 have hwbx:wb≠bx:=by omega
 rw[<-hbx] at E0 B0 ⊢;have HB:Hid (bx=w.heap.size):=hbx;clear hbx;have KW0:Keep wb w w0:=Keep.ofBelow (by rw[<-HB.out];exact B0);simp only at S0;rcases hkk with rfl|rfl|rfl|rfl|rfl|rfl|rfl|rfl|rfl|rfl|rfl|rfl|rfl|rfl|rfl|rfl|rfl|rfl|rfl|rfl
 ·have hl:f.len=0:=by simp[kidB] at hkb;omega
  obtain rfl:=len0 hl;have HZ:Hid (PostKd w wb bv W (.returned (.int .i64 1)) w0):=postKd (st:=none) (HW.out.trans rfl) W0 KW0;obtain⟨p0,p1,p2,p3,p4,pf⟩:=box5 E0;clear HW hr ho hkb S0 W0 N0 E0 B0 KW0;go_wp2;exact bodyPost_ret (v:=.int .i64 1) (by simp[results,Tryz.results88,go_sem]) rfl HZ.out
 ·have hl:f.len=0:=by simp[kidB] at hkb;omega
  obtain rfl:=len0 hl;have HZ:Hid (PostKd w wb bv W (.returned (.int .i64 2)) w0):=postKd (st:=none) (HW.out.trans rfl) W0 KW0;obtain⟨p0,p1,p2,p3,p4,pf⟩:=box5 E0;clear HW hr ho hkb S0 W0 N0 E0 B0 KW0;go_wp2;exact bodyPost_ret (v:=.int .i64 2) (by simp[results,Tryz.results88,go_sem]) rfl HZ.out
 ·have hl:f.len=0:=by simp[kidB] at hkb;omega
  obtain rfl:=len0 hl;have HZ:Hid (PostKd w wb bv W (.returned (.int .i64 3)) w0):=postKd (st:=none) (HW.out.trans rfl) W0 KW0;obtain⟨p0,p1,p2,p3,p4,pf⟩:=box5 E0;clear HW hr ho hkb S0 W0 N0 E0 B0 KW0;go_wp2;exact bodyPost_ret (v:=.int .i64 3) (by simp[results,Tryz.results88,go_sem]) rfl HZ.out
 ·have hl:f.len=0:=by simp[kidB] at hkb;omega
  obtain rfl:=len0 hl;have c1:=fun k=>name_q ⟨k,n,nm,a,.nil⟩ ao cap w0 wb bv b W0 N0 (by have:=hr.bl;simp only at this;omega);simp only[exV_out] at c1;obtain⟨p0,p1,p2,p3,p4,pf⟩:=box5 E0;clear hr ho hkb;go_wp2_with fail;refine(c1 _).mono ?_;rintro z w1 ⟨⟨r,rfl,h3⟩,W1,K1⟩;simp only at h3 W1;have HZ:Hid (PostKd w wb bv W (.returned (.int .i64 r)) w1):=postNm HW.out h3 W1 (KW0.trans K1);clear c1 W1 K1 h3 p0 p1 p2 p3 p4 pf S0 W0 N0 E0 B0 KW0 HW;go_wp2;exact bodyPost_ret (v:=.int .i64 r) (by simp[results,Tryz.results88,go_sem]) rfl HZ.out
 ·have hl:f.len=1:=by simp[kidB] at hkb;omega
  obtain⟨x,rfl⟩:=len1 hl;have hx:=hr.kids (by decide) .nil .nil x rfl;have HC:Hid (W=resR (musR none 1 x b) 1):=HW.out.trans (chk_one 1 1 (by decide) (by decide) rfl (by decide) rfl);obtain⟨p0,p1,p2,p3,p4,pf⟩:=box5 E0;obtain⟨kb,off,ak,ck,hao,x0,x1,x2,x3,x4,SK⟩:=Sl.kidP (x:=.nil) (r:=.nil) (y:=x) S0 0 rfl;subst hao;simp only[Nat.zero_mul,Nat.add_zero] at x0 x1 x2 x3 x4;have hlen:(Fs.ex x .nil).len=1:=rfl;have c1:=must_q IH x ak ck wb bv b 1 none w0 hx (fun _=>by decide) W0 (fun _=>N0) SK;rw[exV_out] at c1;clear HW hr ho hkb;simp only[hlen] at p3 ⊢;go_wp2_with fail;refine c1.mono ?_;rintro z w1 ⟨rfl,W1,K1⟩;have HZ:Hid (PostKd w wb bv W (.returned (.int .i64 1)) w1):=postKd HC.out W1 (KW0.trans K1);clear c1 W1 K1 HC p0 p1 p2 p3 p4 pf x0 x1 x2 x3 x4 SK S0 W0 N0 E0 B0 KW0;go_wp2;exact bodyPost_ret (v:=.int .i64 1) (by simp[results,Tryz.results88,go_sem]) rfl HZ.out
 ·have hl:f.len=1:=by simp[kidB] at hkb;omega
  obtain⟨x,rfl⟩:=len1 hl;have hx:=hr.kids (by decide) .nil .nil x rfl;have HC:Hid (W=resR (musR none 2 x b) 2):=HW.out.trans (chk_one 2 2 (by decide) (by decide) rfl (by decide) rfl);obtain⟨p0,p1,p2,p3,p4,pf⟩:=box5 E0;obtain⟨kb,off,ak,ck,hao,x0,x1,x2,x3,x4,SK⟩:=Sl.kidP (x:=.nil) (r:=.nil) (y:=x) S0 0 rfl;subst hao;simp only[Nat.zero_mul,Nat.add_zero] at x0 x1 x2 x3 x4;have hlen:(Fs.ex x .nil).len=1:=rfl;have c1:=must_q IH x ak ck wb bv b 2 none w0 hx (fun _=>by decide) W0 (fun _=>N0) SK;rw[exV_out] at c1;clear HW hr ho hkb;simp only[hlen] at p3 ⊢;go_wp2_with fail;refine c1.mono ?_;rintro z w1 ⟨rfl,W1,K1⟩;have HZ:Hid (PostKd w wb bv W (.returned (.int .i64 2)) w1):=postKd HC.out W1 (KW0.trans K1);clear c1 W1 K1 HC p0 p1 p2 p3 p4 pf x0 x1 x2 x3 x4 SK S0 W0 N0 E0 B0 KW0;go_wp2;exact bodyPost_ret (v:=.int .i64 2) (by simp[results,Tryz.results88,go_sem]) rfl HZ.out
 ·have hl:f.len=2:=by simp[kidB,opOf,opsL] at hkb;omega
  obtain⟨x,y,rfl⟩:=len2 hl;have hx:=hr.kids (by decide) .nil (Fs.ex y .nil) x rfl;have hy:=hr.kids (by decide) (Fs.ex x .nil) .nil y rfl;have HC:Hid (W=resR (musR (musR none 1 x b) 1 y b) 1):=HW.out.trans (chk_bin 1 1 (by decide) (by decide) rfl rfl (by decide) rfl);obtain⟨p0,p1,p2,p3,p4,pf⟩:=box5 E0;have c1:=fun k=>binary_q IH ⟨k,n,nm,a,Fs.ex x (Fs.ex y .nil)⟩ x y ao cap wb bv b 1 1 w0 rfl hx hy (by decide) W0 N0 S0;simp only[exV_out] at c1;clear HW hr ho hkb;go_wp2_with fail;refine(c1 _).mono ?_;rintro z w1 ⟨rfl,W1,K1⟩;have HZ:Hid (PostKd w wb bv W (.returned (.int .i64 1)) w1):=postKd HC.out W1 (KW0.trans K1);clear c1 W1 K1 HC p0 p1 p2 p3 p4 pf S0 W0 N0 E0 B0 KW0;go_wp2;exact bodyPost_ret (v:=.int .i64 1) (by simp[results,Tryz.results88,go_sem]) rfl HZ.out
 ·have hl:f.len=2:=by simp[kidB,opOf,opsL] at hkb;omega
  obtain⟨x,y,rfl⟩:=len2 hl;have hx:=hr.kids (by decide) .nil (Fs.ex y .nil) x rfl;have hy:=hr.kids (by decide) (Fs.ex x .nil) .nil y rfl;have HC:Hid (W=resR (musR (musR none 1 x b) 1 y b) 1):=HW.out.trans (chk_bin 1 1 (by decide) (by decide) rfl rfl (by decide) rfl);obtain⟨p0,p1,p2,p3,p4,pf⟩:=box5 E0;have c1:=fun k=>binary_q IH ⟨k,n,nm,a,Fs.ex x (Fs.ex y .nil)⟩ x y ao cap wb bv b 1 1 w0 rfl hx hy (by decide) W0 N0 S0;simp only[exV_out] at c1;clear HW hr ho hkb;go_wp2_with fail;refine(c1 _).mono ?_;rintro z w1 ⟨rfl,W1,K1⟩;have HZ:Hid (PostKd w wb bv W (.returned (.int .i64 1)) w1):=postKd HC.out W1 (KW0.trans K1);clear c1 W1 K1 HC p0 p1 p2 p3 p4 pf S0 W0 N0 E0 B0 KW0;go_wp2;exact bodyPost_ret (v:=.int .i64 1) (by simp[results,Tryz.results88,go_sem]) rfl HZ.out
 ·have hl:f.len=2:=by simp[kidB,opOf,opsL] at hkb;omega
  obtain⟨x,y,rfl⟩:=len2 hl;have hx:=hr.kids (by decide) .nil (Fs.ex y .nil) x rfl;have hy:=hr.kids (by decide) (Fs.ex x .nil) .nil y rfl;have HC:Hid (W=resR (musR (musR none 1 x b) 1 y b) 1):=HW.out.trans (chk_bin 1 1 (by decide) (by decide) rfl rfl (by decide) rfl);obtain⟨p0,p1,p2,p3,p4,pf⟩:=box5 E0;have c1:=fun k=>binary_q IH ⟨k,n,nm,a,Fs.ex x (Fs.ex y .nil)⟩ x y ao cap wb bv b 1 1 w0 rfl hx hy (by decide) W0 N0 S0;simp only[exV_out] at c1;clear HW hr ho hkb;go_wp2_with fail;refine(c1 _).mono ?_;rintro z w1 ⟨rfl,W1,K1⟩;have HZ:Hid (PostKd w wb bv W (.returned (.int .i64 1)) w1):=postKd HC.out W1 (KW0.trans K1);clear c1 W1 K1 HC p0 p1 p2 p3 p4 pf S0 W0 N0 E0 B0 KW0;go_wp2;exact bodyPost_ret (v:=.int .i64 1) (by simp[results,Tryz.results88,go_sem]) rfl HZ.out
 ·have hl:f.len=2:=by simp[kidB,opOf,opsL] at hkb;omega
  obtain⟨x,y,rfl⟩:=len2 hl;have hx:=hr.kids (by decide) .nil (Fs.ex y .nil) x rfl;have hy:=hr.kids (by decide) (Fs.ex x .nil) .nil y rfl;have HC:Hid (W=resR (musR (musR none 1 x b) 1 y b) 1):=HW.out.trans (chk_bin 1 1 (by decide) (by decide) rfl rfl (by decide) rfl);obtain⟨p0,p1,p2,p3,p4,pf⟩:=box5 E0;have c1:=fun k=>binary_q IH ⟨k,n,nm,a,Fs.ex x (Fs.ex y .nil)⟩ x y ao cap wb bv b 1 1 w0 rfl hx hy (by decide) W0 N0 S0;simp only[exV_out] at c1;clear HW hr ho hkb;go_wp2_with fail;refine(c1 _).mono ?_;rintro z w1 ⟨rfl,W1,K1⟩;have HZ:Hid (PostKd w wb bv W (.returned (.int .i64 1)) w1):=postKd HC.out W1 (KW0.trans K1);clear c1 W1 K1 HC p0 p1 p2 p3 p4 pf S0 W0 N0 E0 B0 KW0;go_wp2;exact bodyPost_ret (v:=.int .i64 1) (by simp[results,Tryz.results88,go_sem]) rfl HZ.out
 ·have hl:f.len=2:=by simp[kidB,opOf,opsL] at hkb;omega
  obtain⟨x,y,rfl⟩:=len2 hl;have hx:=hr.kids (by decide) .nil (Fs.ex y .nil) x rfl;have hy:=hr.kids (by decide) (Fs.ex x .nil) .nil y rfl;have HC:Hid (W=resR (musR (musR none 1 x b) 1 y b) 1):=HW.out.trans (chk_bin 1 1 (by decide) (by decide) rfl rfl (by decide) rfl);obtain⟨p0,p1,p2,p3,p4,pf⟩:=box5 E0;have c1:=fun k=>binary_q IH ⟨k,n,nm,a,Fs.ex x (Fs.ex y .nil)⟩ x y ao cap wb bv b 1 1 w0 rfl hx hy (by decide) W0 N0 S0;simp only[exV_out] at c1;clear HW hr ho hkb;go_wp2_with fail;refine(c1 _).mono ?_;rintro z w1 ⟨rfl,W1,K1⟩;have HZ:Hid (PostKd w wb bv W (.returned (.int .i64 1)) w1):=postKd HC.out W1 (KW0.trans K1);clear c1 W1 K1 HC p0 p1 p2 p3 p4 pf S0 W0 N0 E0 B0 KW0;go_wp2;exact bodyPost_ret (v:=.int .i64 1) (by simp[results,Tryz.results88,go_sem]) rfl HZ.out
 ·have hl:f.len=2:=by simp[kidB,opOf,opsL] at hkb;omega
  obtain⟨x,y,rfl⟩:=len2 hl;have hx:=hr.kids (by decide) .nil (Fs.ex y .nil) x rfl;have hy:=hr.kids (by decide) (Fs.ex x .nil) .nil y rfl;have HC:Hid (W=(match chkE x b with | .inl e=>.inl e | .inr k0=>resR (musR none k0 y b) 2)):=HW.out.trans (chk_alike (by decide));have hpos:=chkE_pos N x b;have hxs:=hx.sz;have hxo:=hx.ok;obtain⟨p0,p1,p2,p3,p4,pf⟩:=box5 E0;obtain⟨kb,off,ak,ck,hao,x0,x1,x2,x3,x4,SK⟩:=Sl.kidP (x:=.nil) (r:=Fs.ex y .nil) (y:=x) S0 0 rfl;subst hao;simp only[Nat.zero_mul,Nat.add_zero] at x0 x1 x2 x3 x4;have hlen:(Fs.ex x (Fs.ex y .nil)).len=2:=rfl;have c1:=IH x ak ck wb bv b w0 hx W0 N0 SK;rw[exV_out] at c1;clear HW hr ho hkb;simp only[hlen] at p3 E0 ⊢;go_wp2_with fail;refine c1.mono ?_;rintro z w1 ⟨⟨k',rfl,hk'⟩,W1,K1⟩;have E1:=(K1.block _ (lt_of_block E0) (Ne.symm hwbx)).trans E0;have S1:=Sl.keepF S0 K1;have N1:=N0.keep K1;have KW1:=KW0.trans K1;clear c1 p0 p1 p2 p3 p4 pf x0 x1 x2 x3 x4 SK S0 W0 N0 E0 B0 KW0 K1;obtain⟨p0,p1,p2,p3,p4,pf⟩:=box5 E1;obtain⟨kb2,off2,ak,ck,hao,x0,x1,x2,x3,x4,SK⟩:=Sl.kidP (x:=Fs.ex x .nil) (r:=.nil) (y:=y) S1 1 rfl;injection hao with hao
  injection hao with h1 h2
  subst h1;subst h2;simp only[Nat.one_mul] at x0 x1 x2 x3 x4;have hm:stS (chkE x b)=none->k'≠0:=by
   intro hs;cases hc:chkE x b with
   | inl z=>rw[hc] at hs;cases hs
   | inr k1 =>
    rw[hk' k1 hc];exact hpos k1 hxs hxo hc
  have c2:=must_q IH y ak ck wb bv b k' _ w1 hy hm W1 (fun _=>N1) SK;rw[exV_out] at c2;have HC2:Hid (W=resR (musR (stS (chkE x b)) k' y b) 2):=by
   show W=_;rw[HC.out];cases hc:chkE x b with
   | inl z=>rfl
   | inr k1=>rw[hk' k1 hc];rfl
  clear HC hm hpos hk' hxs hxo;go_wp2_with fail;refine c2.mono ?_;rintro z w2 ⟨rfl,W2,K2⟩;have HZ:Hid (PostKd w wb bv W (.returned (.int .i64 2)) w2):=postKd HC2.out W2 (KW1.trans K2);clear c2 W2 K2 HC2 p0 p1 p2 p3 p4 pf x0 x1 x2 x3 x4 SK S1 W1 N1 E1 KW1;go_wp2;exact bodyPost_ret (v:=.int .i64 2) (by simp[results,Tryz.results88,go_sem]) rfl HZ.out
 ·have hl:f.len=2:=by simp[kidB,opOf,opsL] at hkb;omega
  obtain⟨x,y,rfl⟩:=len2 hl;have hx:=hr.kids (by decide) .nil (Fs.ex y .nil) x rfl;have hy:=hr.kids (by decide) (Fs.ex x .nil) .nil y rfl;have HC:Hid (W=(match chkE x b with | .inl e=>.inl e | .inr k0=>resR (musR none k0 y b) 2)):=HW.out.trans (chk_alike (by decide));have hpos:=chkE_pos N x b;have hxs:=hx.sz;have hxo:=hx.ok;obtain⟨p0,p1,p2,p3,p4,pf⟩:=box5 E0;obtain⟨kb,off,ak,ck,hao,x0,x1,x2,x3,x4,SK⟩:=Sl.kidP (x:=.nil) (r:=Fs.ex y .nil) (y:=x) S0 0 rfl;subst hao;simp only[Nat.zero_mul,Nat.add_zero] at x0 x1 x2 x3 x4;have hlen:(Fs.ex x (Fs.ex y .nil)).len=2:=rfl;have c1:=IH x ak ck wb bv b w0 hx W0 N0 SK;rw[exV_out] at c1;clear HW hr ho hkb;simp only[hlen] at p3 E0 ⊢;go_wp2_with fail;refine c1.mono ?_;rintro z w1 ⟨⟨k',rfl,hk'⟩,W1,K1⟩;have E1:=(K1.block _ (lt_of_block E0) (Ne.symm hwbx)).trans E0;have S1:=Sl.keepF S0 K1;have N1:=N0.keep K1;have KW1:=KW0.trans K1;clear c1 p0 p1 p2 p3 p4 pf x0 x1 x2 x3 x4 SK S0 W0 N0 E0 B0 KW0 K1;obtain⟨p0,p1,p2,p3,p4,pf⟩:=box5 E1;obtain⟨kb2,off2,ak,ck,hao,x0,x1,x2,x3,x4,SK⟩:=Sl.kidP (x:=Fs.ex x .nil) (r:=.nil) (y:=y) S1 1 rfl;injection hao with hao
  injection hao with h1 h2
  subst h1;subst h2;simp only[Nat.one_mul] at x0 x1 x2 x3 x4;have hm:stS (chkE x b)=none->k'≠0:=by
   intro hs;cases hc:chkE x b with
   | inl z=>rw[hc] at hs;cases hs
   | inr k1 =>
    rw[hk' k1 hc];exact hpos k1 hxs hxo hc
  have c2:=must_q IH y ak ck wb bv b k' _ w1 hy hm W1 (fun _=>N1) SK;rw[exV_out] at c2;have HC2:Hid (W=resR (musR (stS (chkE x b)) k' y b) 2):=by
   show W=_;rw[HC.out];cases hc:chkE x b with
   | inl z=>rfl
   | inr k1=>rw[hk' k1 hc];rfl
  clear HC hm hpos hk' hxs hxo;go_wp2_with fail;refine c2.mono ?_;rintro z w2 ⟨rfl,W2,K2⟩;have HZ:Hid (PostKd w wb bv W (.returned (.int .i64 2)) w2):=postKd HC2.out W2 (KW1.trans K2);clear c2 W2 K2 HC2 p0 p1 p2 p3 p4 pf x0 x1 x2 x3 x4 SK S1 W1 N1 E1 KW1;go_wp2;exact bodyPost_ret (v:=.int .i64 2) (by simp[results,Tryz.results88,go_sem]) rfl HZ.out
 ·have hl:f.len=2:=by simp[kidB,opOf,opsL] at hkb;omega
  obtain⟨x,y,rfl⟩:=len2 hl;have hx:=hr.kids (by decide) .nil (Fs.ex y .nil) x rfl;have hy:=hr.kids (by decide) (Fs.ex x .nil) .nil y rfl;have HC:Hid (W=resR (musR (musR none 1 x b) 1 y b) 2):=HW.out.trans (chk_bin 1 2 (by decide) (by decide) rfl rfl (by decide) rfl);obtain⟨p0,p1,p2,p3,p4,pf⟩:=box5 E0;have c1:=fun k=>binary_q IH ⟨k,n,nm,a,Fs.ex x (Fs.ex y .nil)⟩ x y ao cap wb bv b 1 2 w0 rfl hx hy (by decide) W0 N0 S0;simp only[exV_out] at c1;clear HW hr ho hkb;go_wp2_with fail;refine(c1 _).mono ?_;rintro z w1 ⟨rfl,W1,K1⟩;have HZ:Hid (PostKd w wb bv W (.returned (.int .i64 2)) w1):=postKd HC.out W1 (KW0.trans K1);clear c1 W1 K1 HC p0 p1 p2 p3 p4 pf S0 W0 N0 E0 B0 KW0;go_wp2;exact bodyPost_ret (v:=.int .i64 2) (by simp[results,Tryz.results88,go_sem]) rfl HZ.out
 ·have hl:f.len=2:=by simp[kidB,opOf,opsL] at hkb;omega
  obtain⟨x,y,rfl⟩:=len2 hl;have hx:=hr.kids (by decide) .nil (Fs.ex y .nil) x rfl;have hy:=hr.kids (by decide) (Fs.ex x .nil) .nil y rfl;have HC:Hid (W=resR (musR (musR none 1 x b) 1 y b) 2):=HW.out.trans (chk_bin 1 2 (by decide) (by decide) rfl rfl (by decide) rfl);obtain⟨p0,p1,p2,p3,p4,pf⟩:=box5 E0;have c1:=fun k=>binary_q IH ⟨k,n,nm,a,Fs.ex x (Fs.ex y .nil)⟩ x y ao cap wb bv b 1 2 w0 rfl hx hy (by decide) W0 N0 S0;simp only[exV_out] at c1;clear HW hr ho hkb;go_wp2_with fail;refine(c1 _).mono ?_;rintro z w1 ⟨rfl,W1,K1⟩;have HZ:Hid (PostKd w wb bv W (.returned (.int .i64 2)) w1):=postKd HC.out W1 (KW0.trans K1);clear c1 W1 K1 HC p0 p1 p2 p3 p4 pf S0 W0 N0 E0 B0 KW0;go_wp2;exact bodyPost_ret (v:=.int .i64 2) (by simp[results,Tryz.results88,go_sem]) rfl HZ.out
 ·have hl:f.len=2:=by simp[kidB,opOf,opsL] at hkb;omega
  obtain⟨x,y,rfl⟩:=len2 hl;have hx:=hr.kids (by decide) .nil (Fs.ex y .nil) x rfl;have hy:=hr.kids (by decide) (Fs.ex x .nil) .nil y rfl;have HC:Hid (W=resR (musR (musR none 2 x b) 2 y b) 2):=HW.out.trans (chk_bin 2 2 (by decide) (by decide) rfl rfl (by decide) rfl);obtain⟨p0,p1,p2,p3,p4,pf⟩:=box5 E0;have c1:=fun k=>binary_q IH ⟨k,n,nm,a,Fs.ex x (Fs.ex y .nil)⟩ x y ao cap wb bv b 2 2 w0 rfl hx hy (by decide) W0 N0 S0;simp only[exV_out] at c1;clear HW hr ho hkb;go_wp2_with fail;refine(c1 _).mono ?_;rintro z w1 ⟨rfl,W1,K1⟩;have HZ:Hid (PostKd w wb bv W (.returned (.int .i64 2)) w1):=postKd HC.out W1 (KW0.trans K1);clear c1 W1 K1 HC p0 p1 p2 p3 p4 pf S0 W0 N0 E0 B0 KW0;go_wp2;exact bodyPost_ret (v:=.int .i64 2) (by simp[results,Tryz.results88,go_sem]) rfl HZ.out
 ·have hl:f.len=2:=by simp[kidB,opOf,opsL] at hkb;omega
  obtain⟨x,y,rfl⟩:=len2 hl;have hx:=hr.kids (by decide) .nil (Fs.ex y .nil) x rfl;have hy:=hr.kids (by decide) (Fs.ex x .nil) .nil y rfl;have HC:Hid (W=resR (musR (musR none 2 x b) 2 y b) 2):=HW.out.trans (chk_bin 2 2 (by decide) (by decide) rfl rfl (by decide) rfl);obtain⟨p0,p1,p2,p3,p4,pf⟩:=box5 E0;have c1:=fun k=>binary_q IH ⟨k,n,nm,a,Fs.ex x (Fs.ex y .nil)⟩ x y ao cap wb bv b 2 2 w0 rfl hx hy (by decide) W0 N0 S0;simp only[exV_out] at c1;clear HW hr ho hkb;go_wp2_with fail;refine(c1 _).mono ?_;rintro z w1 ⟨rfl,W1,K1⟩;have HZ:Hid (PostKd w wb bv W (.returned (.int .i64 2)) w1):=postKd HC.out W1 (KW0.trans K1);clear c1 W1 K1 HC p0 p1 p2 p3 p4 pf S0 W0 N0 E0 B0 KW0;go_wp2;exact bodyPost_ret (v:=.int .i64 2) (by simp[results,Tryz.results88,go_sem]) rfl HZ.out
 ·have hl:f.len=3:=by simp[kidB] at hkb;omega
  obtain⟨x,y,u,rfl⟩:=len3 hl;have hx:=hr.kids (by decide) .nil (Fs.ex y (Fs.ex u .nil)) x rfl;have hy:=hr.kids (by decide) (Fs.ex x .nil) (Fs.ex u .nil) y rfl;have hu:=hr.kids (by decide) (Fs.ex x (Fs.ex y .nil)) .nil u rfl;have HC:Hid (W=(match musR none 2 x b with|some e=>.inl e|none=>match chkE y b with | .inl e=>.inl e | .inr k1=>resR (musR none k1 u b) k1)):=HW.out.trans chk_choice;have hpos:=chkE_pos N y b;have hys:=hy.sz;have hyo:=hy.ok;obtain⟨p0,p1,p2,p3,p4,pf⟩:=box5 E0;obtain⟨kb,off,ak,ck,hao,x0,x1,x2,x3,x4,SK⟩:=Sl.kidP (x:=.nil) (r:=Fs.ex y (Fs.ex u .nil)) (y:=x) S0 0 rfl;subst hao;simp only[Nat.zero_mul,Nat.add_zero] at x0 x1 x2 x3 x4;have hlen:(Fs.ex x (Fs.ex y (Fs.ex u .nil))).len=3:=rfl;have c1:=must_q IH x ak ck wb bv b 2 none w0 hx (fun _=>by decide) W0 (fun _=>N0) SK;rw[exV_out] at c1;clear HW hr ho hkb;simp only[hlen] at p3 E0 ⊢;go_wp2_with fail;refine c1.mono ?_;rintro z w1 ⟨rfl,W1,K1⟩;have E1:=(K1.block _ (lt_of_block E0) (Ne.symm hwbx)).trans E0;have S1:=Sl.keepF S0 K1;have N1:=N0.keep K1;have KW1:=KW0.trans K1;clear c1 p0 p1 p2 p3 p4 pf x0 x1 x2 x3 x4 SK S0 W0 N0 E0 B0 KW0 K1;obtain⟨p0,p1,p2,p3,p4,pf⟩:=box5 E1;obtain⟨q0,q1,q2,qf⟩:=box3 W1.blk;cases hmx:musR none 2 x b with
  | some z =>
   rw[hmx] at W1 q1 q2;have hz:=W1.ok z rfl;obtain⟨er,pa⟩:=z;simp only[erO,plO] at q1 q2 hz;have hne:((er:Int) != 0)=true:=by simp;omega
   have HZ:Hid (PostKd w wb bv W (.returned (.int .i64 0)) w1):=postKe (by rw[HC.out,hmx]) W1 KW1;clear HC hpos W1 KW1 N1 S1 hmx;go_wp2;exact bodyPost_ret (v:=.int .i64 0) (by simp[results,Tryz.results88,go_sem]) rfl HZ.out
  | none =>
   rw[hmx] at W1 q1 q2;simp only[erO,plO] at q1 q2;have HC1:Hid (W=(match chkE y b with | .inl e=>.inl e | .inr k1=>resR (musR none k1 u b) k1)):=by show W=_;rw[HC.out,hmx]
   obtain⟨kb2,off2,ak,ck,hao,x0,x1,x2,x3,x4,SK⟩:=Sl.kidP (x:=Fs.ex x .nil) (r:=Fs.ex u .nil) (y:=y) S1 1 rfl;injection hao with hao
   injection hao with h1 h2
   subst h1;subst h2;simp only[Nat.one_mul] at x0 x1 x2 x3 x4;have c2:=IH y ak ck wb bv b w1 hy W1 N1 SK;rw[exV_out] at c2;clear HC hmx;go_wp2_with fail;refine c2.mono ?_;rintro z w2 ⟨⟨k',rfl,hk'⟩,W2,K2⟩;have E2:=(K2.block _ (lt_of_block E1) (Ne.symm hwbx)).trans E1;have S2:=Sl.keepF S1 K2;have N2:=N1.keep K2;have KW2:=KW1.trans K2;clear c2 p0 p1 p2 p3 p4 pf q0 q1 q2 qf x0 x1 x2 x3 x4 SK S1 W1 N1 E1 KW1 K2;obtain⟨p0,p1,p2,p3,p4,pf⟩:=box5 E2;obtain⟨kb2,off2,ak,ck,hao,x0,x1,x2,x3,x4,SK⟩:=Sl.kidP (x:=Fs.ex x (Fs.ex y .nil)) (r:=.nil) (y:=u) S2 2 rfl;injection hao with hao
   injection hao with h1 h2
   subst h1;subst h2;simp only[Nat.reduceMul] at x0 x1 x2 x3 x4;have hm:stS (chkE y b)=none->k'≠0:=by
    intro hs;cases hc:chkE y b with
    | inl z=>rw[hc] at hs;cases hs
    | inr k1 =>
     rw[hk' k1 hc];exact hpos k1 hys hyo hc
   have c3:=must_q IH u ak ck wb bv b k' _ w2 hu hm W2 (fun _=>N2) SK;rw[exV_out] at c3;have HC2:Hid (W=resR (musR (stS (chkE y b)) k' u b) k'):=by
    show W=_;rw[HC1.out];cases hc:chkE y b with
    | inl z=>rfl
    | inr k1=>rw[hk' k1 hc];rfl
   clear HC1 hm hpos hk' hys hyo;go_wp2_with fail;refine c3.mono ?_;rintro z w3 ⟨rfl,W3,K3⟩;have HZ:Hid (PostKd w wb bv W (.returned (.int .i64 k')) w3):=postKd HC2.out W3 (KW2.trans K3);clear c3 W3 K3 HC2 p0 p1 p2 p3 p4 pf x0 x1 x2 x3 x4 SK S2 W2 N2 E2 KW2;go_wp2;exact bodyPost_ret (v:=.int .i64 k') (by simp[results,Tryz.results88,go_sem]) rfl HZ.out
 ·have hs:=hr.kids (by decide);have hlen1:=hr.len;simp only at hlen1;have HC:Hid (W=resR (musL f none b) (giveT n)):=by
   rcases ho with ho|⟨-,h1,h2⟩|⟨ho,-⟩|⟨ho,-⟩
   ·omega
   ·exact HW.out.trans (chk_call h1 h2)
   ·omega
   ·omega
  obtain⟨p0,p1,p2,p3,p4,pf⟩:=box5 E0;clear HW hr ho hkb;go_upto_region 42 with fail;clear p0 p1 p2 p3 p4 pf;go_loopw [7] (fun v wr=>∃(d r:Fs),Hid (f=d.app r)/\v=.int .i64 (d.len:Nat)/\Wk wr wb bv (musL d none b)/\Keep wb w0 wr) (fun v _=>f.len-(intOf v).toNat)
  case atStart=>exact⟨.nil,f,rfl,by show _=Value.int .i64 ((0:Nat):Int);rfl,W0,Keep.refl _ _⟩
  case round =>
   obtain⟨d,r,hf,rfl,W2,K2⟩:=hrel;have hlk:f.len=d.len+r.len:=by rw[hf.out,Fs.len_app]
   have E2:=(K2.block _ (lt_of_block E0) (Ne.symm hwbx)).trans E0;obtain⟨p0,p1,p2,p3,p4,pf⟩:=box5 E2;cases r using Fs.on with
   | nil =>
    have hl0:¬(d.len:Int)<(f.len:Int):=by simp only[Fs.len] at hlk;omega
    have hdn:f=d:=by rw[hf.out];clear hf hlk hl0 W2;exact app_nil13 d
    have c2:=gives_q n wr;obtain⟨gv,hgv⟩:∃gv,gv=giveT n:=⟨_,rfl⟩
    rw[<-hgv] at c2;have HZ:Hid (PostKd w wb bv W (.returned (.int .i64 gv)) wr):=postKd (by rw[HC.out,hdn,hgv]) W2 (KW0.trans K2);clear HC hgv hdn hf hlk W2 K2;go_wp2_with fail;refine c2.mono ?_;rintro z w3 ⟨rfl,rfl⟩;clear c2;go_wp2;exact bodyPost_ret (v:=.int .i64 gv) (by simp[results,Tryz.results88,go_sem]) rfl HZ.out
   | cons kk kn km ka kks kr =>
    have hl0:(d.len:Int)<(f.len:Int):=by simp only[Fs.len] at hlk;omega
    have hl1:d.len<f.len:=by simp only[Fs.len] at hlk;omega
    have SK2:Sl wr (Nf wb) (d.app (Fs.ex ⟨kk,kn,km,ka,kks⟩ kr)) ao:=by
     have:=Sl.keepF S0 K2
     rw[hf.out] at this;exact this
    obtain⟨gb,go,ak,ck,hao,x0,x1,x2,x3,x4,SKK⟩:=Sl.kidP SK2 d.len rfl;subst hao;have c1:=must_q IH ⟨kk,kn,km,ka,kks⟩ ak ck wb bv b 3 _ wr (hs d kr _ hf.out) (fun _=>by decide) W2 (fun _=>N0.keep K2) SKK;rw[exV_out] at c1;simp only at c1 x0 x1 x2 x3 x4;have hf2:Hid (f=(d.snoc ⟨kk,kn,km,ka,kks⟩).app kr):=by show f=_;rw[hf.out];unfold Fs.snoc;rw[Fs.app_assoc];rfl
    have hl2:(d.len:Int)+1=((d.snoc ⟨kk,kn,km,ka,kks⟩).len:Nat):=by rw[Fs.len_snoc];rfl
    clear hf hlk SK2 SKK;go_wp2_with fail;refine c1.mono ?_;rintro z w3 ⟨rfl,W3,K3⟩;have W4:Wk w3 wb bv (musL (d.snoc ⟨kk,kn,km,ka,kks⟩) none b):=by rw[musL_snoc];exact W3
    have K4:=K2.trans K3;clear c1 W3 K3 W2 K2 p0 p1 p2 p3 p4 pf x0 x1 x2 x3 x4 E2;go_wp2;go_roundw
    case rel=>exact⟨_,kr,hf2,by rw[<-hl2],W4,K4⟩
    case measure=>simp[intOf];omega
 ·have hl:f.len=2:=by simp[kidB] at hkb;omega
  obtain⟨s,x,rfl⟩:=len2 hl;have hok:=hr.ok.2;have hsk:=hr.sk;have hsz:=hr.sz;have hsh:=hr.sh;have hbl:=hr.bl;simp only at hok hsk hsz hsh hbl;have hsk':(Fs.ex s (Fs.ex x .nil)).stk true:=hsk;have hoks:=okA_ex hok;have hokx:=okA_ex hoks.2;simp only[size_ex,Fs.size] at hsz hbl;have hx:Rt13 N x (b.length+1):=⟨by omega,hokx.1,hsk'.2.2.1,hsk'.2.2.2.1,hsh.2.2.2.2.1,hsh.2.2.2.2.2.1,by omega⟩
  have hs21:s.k≠21:=by
   intro h
   have:=hsk'.1
   rw[h] at this;cases this
  have hs:Kds N s.kids b.length:=Kds.of (by omega) hoks.1.2 (by have:=hsk'.2.1;rw[show (s.k==21)=false by simpa using hs21] at this;exact this) hsh.2.2.1 (by omega);have hset:(s.k=22\/s.k=23)/\s.kids.len=0\/s.k=24/\s.kids.len=1\/s.k=25:=by
   have h1:=hsk'.1;have h2:=hoks.1.1.2.2.1;unfold isSetK at h1;simp at h1;rcases h1 with ((h1|h1)|h1)|h1<;>rw[h1] at h2<;>(simp[kidB] at h2;omega)
  have hcs:chkE s b=resR (musL s.kids none b) 4:=chk_set hset;have HC:Hid (W=resR (musR (musL s.kids none b) (bodyT n) x (b++[nm])) (wholeT n)):=by
   rcases ho with ho|⟨ho,-⟩|⟨-,h1,-⟩|⟨ho,-⟩
   ·omega
   ·omega
   ·exact HW.out.trans (chk_quant h1 hcs)
   ·omega
  obtain⟨p0,p1,p2,p3,p4,pf⟩:=box5 E0;have c1:=fun k=>quant13 IH ⟨k,n,nm,a,Fs.ex s (Fs.ex x .nil)⟩ s x ao cap wb bv b w0 rfl hs hsh.2.1 hx W0 N0 S0;simp only[exV_out] at c1;obtain⟨wo,hwo⟩:∃wo,wo=wholeT n:=⟨_,rfl⟩
  rw[<-hwo] at c1;clear HW hr ho hkb hok hsk hsz hsh hbl hsk' hoks hokx hx hs21 hs hset hcs;go_wp2_with fail;refine(c1 _).mono ?_;rintro z w1 ⟨rfl,W1,K1⟩;have HZ:Hid (PostKd w wb bv W (.returned (.int .i64 wo)) w1):=postKd (by rw[HC.out,hwo]) W1 (KW0.trans K1);clear c1 W1 K1 HC p0 p1 p2 p3 p4 pf S0 W0 N0 E0 B0 KW0 hwo;go_wp2;exact bodyPost_ret (v:=.int .i64 wo) (by simp[results,Tryz.results88,go_sem]) rfl HZ.out
theorem kind_ok:∀ N,KindOk N
 | 0=>fun e ao cap wb bv b w h=>absurd h.sz (Nat.not_lt_zero _)
 | N+1=>kind_step (kind_ok N)
structure Wt where
 t:List UInt8
 o:Nat
 q:Nat
abbrev Ow:=Option Wt
def putO (x:List UInt8):Ow->Ow
 | none=>none
 | some s=>if 2000<s.t.length+x.length then none else some ⟨s.t++x,s.o,s.q⟩
def entO:Ow->Ow
 | none=>none
 | some s=>if 64<s.o+1 then none else some ⟨s.t,s.o+1,s.q⟩
def leaO:Ow->Ow
 | none=>none
 | some s=>some ⟨s.t,s.o-1,s.q⟩
def qenO:Ow->Ow
 | none=>none
 | some s=>if 4<s.q+1 then none else some ⟨s.t,s.o,s.q+1⟩
def qleO:Ow->Ow
 | none=>none
 | some s=>some ⟨s.t,s.o,s.q-1⟩
def absO (s:St):Ow:=if roomB s then some ⟨s.t,s.a,s.b⟩ else none
theorem room_iff (s:St):roomB s=true ↔ s.t.length<=2000/\s.m<=64/\s.n<=4:=by
 unfold roomB;simp only[Bool.not_eq_true',Bool.or_eq_false_iff,decide_eq_false_iff_not];omega
theorem abs_some {s:St}(h:s.t.length<=2000/\s.m<=64/\s.n<=4):absO s=some ⟨s.t,s.a,s.b⟩:=by unfold absO;rw[if_pos ((room_iff s).2 h)]
theorem abs_none {s:St}(h:¬(s.t.length<=2000/\s.m<=64/\s.n<=4)):absO s=none:=by unfold absO;rw[if_neg (fun e=>h ((room_iff s).1 e))]
theorem abs_put (x:List UInt8)(s:St):putO x (absO s)=absO (s.lay x):=by
 by_cases h:s.t.length<=2000/\s.m<=64/\s.n<=4
 ·rw[abs_some h];by_cases h2:2000<s.t.length+x.length
  ·rw[abs_none (s:=s.lay x) (by simp only[St.lay,List.length_append];omega)];simp[putO,h2]
  ·rw[abs_some (s:=s.lay x) (by simp only[St.lay,List.length_append];omega)];simp[putO,h2,St.lay]
 ·rw[abs_none h,abs_none (s:=s.lay x) (by simp only[St.lay,List.length_append];omega)];rfl
theorem abs_ent (s:St):entO (absO s)=absO s.ent:=by
 by_cases h:s.t.length<=2000/\s.m<=64/\s.n<=4
 ·rw[abs_some h];by_cases h2:64<s.a+1
  ·rw[abs_none (s:=s.ent) (by simp only[St.ent];omega)];simp[entO,h2]
  ·rw[abs_some (s:=s.ent) (by simp only[St.ent];omega)];simp[entO,h2,St.ent]
 ·rw[abs_none h,abs_none (s:=s.ent) (by simp only[St.ent];omega)];rfl
theorem abs_lea (s:St):leaO (absO s)=absO s.lea:=by
 by_cases h:s.t.length<=2000/\s.m<=64/\s.n<=4
 ·rw[abs_some h,abs_some (s:=s.lea) h];rfl
 ·rw[abs_none h,abs_none (s:=s.lea) h];rfl
theorem abs_qen (s:St):qenO (absO s)=absO s.qent:=by
 by_cases h:s.t.length<=2000/\s.m<=64/\s.n<=4
 ·rw[abs_some h];by_cases h2:4<s.b+1
  ·rw[abs_none (s:=s.qent) (by simp only[St.qent];omega)];simp[qenO,h2]
  ·rw[abs_some (s:=s.qent) (by simp only[St.qent];omega)];simp[qenO,h2,St.qent]
 ·rw[abs_none h,abs_none (s:=s.qent) (by simp only[St.qent];omega)];rfl
theorem abs_qle (s:St):qleO (absO s)=absO s.qlea:=by
 by_cases h:s.t.length<=2000/\s.m<=64/\s.n<=4
 ·rw[abs_some h,abs_some (s:=s.qlea) h];rfl
 ·rw[abs_none h,abs_none (s:=s.qlea) h];rfl
def oPlain (k n:Int)(nm:List UInt8)(K:Sep->Ow->Ow)(s:Ow):Ow :=
 if k=1 then putO (Go.Lib.itoa n) s
 else if k=2 then putO (Go.Lib.formatBool (n==1)) s
 else if k=3 then putO ([64]++Go.Lib.itoa n) s
 else if k=4\/k=23 then putO nm s
 else if k=22 then putO [118,101,114,116,105,99,101,115] s
 else K (opS k) s
def oList (x y:List UInt8)(K:Sep->Ow->Ow)(s:Ow):Ow:=putO y (leaO (K comS (putO x (entO s))))
def oNode (k n:Int)(nm:List UInt8)(K:Sep->Ow->Ow)(s:Ow):Ow :=
 if k=7 then leaO (K (fun _=>([110,111,116,32],3)) (entO s))
 else if k=6 then leaO (K (fun _=>([45],7)) (entO s))
 else if k=19 then leaO (K ifS (entO s))
 else if k=21 then qleO (leaO (K (quS n nm) (entO (qenO s))))
 else if k=20 then oList [40] [41] K (putO (cword n) s)
 else if k=24 then oList [40] [41] K (putO [97,114,111,117,110,100] s)
 else if k=25 then oList [123] [125] K s
 else oPlain k n nm K s
def oPart (k n:Int)(nm:List UInt8)(len:Nat)(set:Bool)(K:Sep->Ow->Ow)(s:Ow):Ow :=
 if (numB k n&&namB k nm&&kidB k n len&&(isSetK k==set))=true then oNode k n nm K s else none
def oE (k n:Int)(nm:List UInt8)(len:Nat)(set:Bool)(asked:Nat)(K:Sep->Ow->Ow)(s:Ow):Ow :=
 if rowOf k<asked then putO [41] (leaO (oPart k n nm len false K (putO [40] (entO s)))) else oPart k n nm len set K s
def oFs:Fs->Bool->Sep->Nat->Ow->Ow
 | ⟨none⟩,_,_,_,s=>s
 | ⟨some ⟨k,n,nm,a,ks,r⟩⟩,first,f,i,s=>oFs r false f (i+1) (oE k n nm ks.len first (f i).2 (fun g s=>oFs ks (k==21) g 0 s) (putO (f i).1 s))
def oEx (e:Ex)(set:Bool)(s:Ow):Ow:=oPart e.k e.n e.nm e.kids.len set (fun g s=>oFs e.kids (e.k==21) g 0 s) s
def okS:Fs->Bool->Bool
 | ⟨none⟩,_=>true
 | ⟨some ⟨k,n,nm,a,ks,r⟩⟩,first=>(numB k n&&namB k nm&&kidB k n ks.len&&(isSetK k==first))&&okS ks (k==21)&&okS r false
theorem lay_lay (s:St)(x y:List UInt8):(s.lay x).lay y=s.lay (x++y):=by simp[St.lay]
theorem leaf_len {k n:Int}{m:Nat}(h:kidB k n m=true)(hk:k=1\/k=2\/k=3\/k=4\/k=22\/k=23):m=0:=by
 unfold kidB at h;rcases hk with rfl|rfl|rfl|rfl|rfl|rfl<;>simpa using h
theorem lea_lay (s:St)(x:List UInt8):s.lea.lay x=(s.lay x).lea:=rfl
theorem node_abs {k n:Int}{nm:List UInt8}{K:Sep->St->St}{K':Sep->Ow->Ow}(hK:∀ g s,(k=21->(g 0).2=0)->K' g (absO s)=absO (K g s))(s:St):oNode k n nm K' (absO s)=absO (wNode k n nm K s):=by
 unfold oNode wNode;by_cases h7:k=7
 ·simp only[h7,if_true];rw[abs_ent,hK _ _ (by omega),abs_lea]
 ·by_cases h6:k=6
  ·simp only[h7,h6,if_true,if_false];rw[if_neg (by omega),if_neg (by omega),abs_ent,hK _ _ (by omega),abs_lea]
  ·by_cases h19:k=19
   ·rw[if_neg h7,if_neg h6,if_pos h19,if_neg h7,if_neg h6,if_pos h19,abs_ent,hK _ _ (by omega),abs_lea]
   ·by_cases h21:k=21
    ·rw[if_neg h7,if_neg h6,if_neg h19,if_pos h21,if_neg h7,if_neg h6,if_neg h19,if_pos h21,abs_qen,abs_ent,hK _ _ (fun _=>rfl),abs_lea,abs_qle];rfl
    ·rw[if_neg h7,if_neg h6,if_neg h19,if_neg h21,if_neg h7,if_neg h6,if_neg h19,if_neg h21];by_cases h20:k=20
     ·rw[if_pos h20,if_pos h20];unfold oList wList;rw[abs_put,abs_ent,abs_put,hK _ _ (by omega),abs_lea,abs_put,lea_lay]
     ·rw[if_neg h20,if_neg h20];by_cases h24:k=24
      ·rw[if_pos h24,if_pos h24];unfold oList wList;rw[abs_put,abs_ent,abs_put,hK _ _ (by omega),abs_lea,abs_put,lea_lay]
      ·rw[if_neg h24,if_neg h24];by_cases h25:k=25
       ·rw[if_pos h25,if_pos h25];unfold oList wList;rw[abs_ent,abs_put,hK _ _ (by omega),abs_lea,abs_put,lea_lay]
       ·rw[if_neg h25,if_neg h25];unfold oPlain wPlain;by_cases h1:k=1
        ·rw[if_pos h1,if_pos h1,abs_put]
        ·rw[if_neg h1,if_neg h1];by_cases h2:k=2
         ·rw[if_pos h2,if_pos h2,abs_put]
         ·rw[if_neg h2,if_neg h2];by_cases h3:k=3
          ·rw[if_pos h3,if_pos h3,abs_put,lay_lay]
          ·rw[if_neg h3,if_neg h3];by_cases h4:k=4\/k=23
           ·rw[if_pos h4,if_pos h4,abs_put]
           ·rw[if_neg h4,if_neg h4];by_cases h22:k=22
            ·rw[if_pos h22,if_pos h22,abs_put]
            ·rw[if_neg h22,if_neg h22,hK _ _ (by omega)]
theorem node_none {k n:Int}{nm:List UInt8}{K':Sep->Ow->Ow}(hK:∀ g s,(k=21->(g 0).2=0)->K' g (absO s)=none)(hk:¬(k=1\/k=2\/k=3\/k=4\/k=22\/k=23))(s:St):oNode k n nm K' (absO s)=none:=by
 unfold oNode;by_cases h7:k=7
 ·rw[if_pos h7,abs_ent,hK _ _ (by omega)];rfl
 ·by_cases h6:k=6
  ·rw[if_neg h7,if_pos h6,abs_ent,hK _ _ (by omega)];rfl
  ·by_cases h19:k=19
   ·rw[if_neg h7,if_neg h6,if_pos h19,abs_ent,hK _ _ (by omega)];rfl
   ·by_cases h21:k=21
    ·rw[if_neg h7,if_neg h6,if_neg h19,if_pos h21,abs_qen,abs_ent,hK _ _ (fun _=>rfl)];rfl
    ·rw[if_neg h7,if_neg h6,if_neg h19,if_neg h21];by_cases h20:k=20
     ·rw[if_pos h20];unfold oList;rw[abs_put,abs_ent,abs_put,hK _ _ (by omega)];rfl
     ·rw[if_neg h20];by_cases h24:k=24
      ·rw[if_pos h24];unfold oList;rw[abs_put,abs_ent,abs_put,hK _ _ (by omega)];rfl
      ·rw[if_neg h24];by_cases h25:k=25
       ·rw[if_pos h25];unfold oList;rw[abs_ent,abs_put,hK _ _ (by omega)];rfl
       ·rw[if_neg h25];unfold oPlain;rw[if_neg (by omega),if_neg (by omega),if_neg (by omega),if_neg (by omega),if_neg (by omega),hK _ _ (by omega)]
theorem node_gone {k n:Int}{nm:List UInt8}{K:Sep->Ow->Ow}(hK:∀ g,K g none=none):oNode k n nm K none=none:=by
 simp only[oNode,oList,oPlain,entO,putO,qenO,hK,leaO,qleO];simp only[ite_self]
theorem e_gone {k n:Int}{nm:List UInt8}{len asked:Nat}{set:Bool}{K:Sep->Ow->Ow}(hK:∀ g,K g none=none):oE k n nm len set asked K none=none:=by
 have h:∀ b,oPart k n nm len b K none=none:=fun b=>by unfold oPart;rw[node_gone hK,ite_self]
 unfold oE;rw[h];simp only[entO,putO,h,leaO,ite_self]
theorem fs_gone:∀ (f:Fs) (b:Bool) (g:Sep) (i:Nat),oFs f b g i none=none
 | ⟨none⟩,b,g,i=>rfl
 | ⟨some ⟨k,n,nm,a,ks,r⟩⟩,b,g,i=>by
  simp only[oFs,putO];rw[e_gone (fun g=>fs_gone ks (k==21) g 0)];exact fs_gone r false g (i+1)
theorem leaf_no {k:Int}(h:isSetK k=true):rowOf k=8:=by
 unfold isSetK at h;simp only[Bool.or_eq_true,beq_iff_eq] at h;rcases h with ((rfl|rfl)|rfl)|rfl<;>rfl
theorem fs_abs:∀ (f:Fs) (first:Bool) (g:Sep) (i:Nat) (s:St),(first=true->(g i).2=0)->oFs f first g i (absO s)=bif okS f first then absO (wFs f g i s) else none
 | ⟨none⟩,first,g,i,s,h=>by simp only[oFs,okS,wFs,cond_true]
 | ⟨some ⟨k,n,nm,a,ks,r⟩⟩,first,g,i,s,h=>by
  simp only[oFs,okS,wFs];rw[abs_put];have IHr:=fun s=>fs_abs r false g (i+1) s (fun e=>by cases e);have part:∀ (set:Bool) (s:St),oPart k n nm ks.len set (fun g s=>oFs ks (k==21) g 0 s) (absO s)=if ((numB k n&&namB k nm&&kidB k n ks.len&&(isSetK k==set))&&okS ks (k==21))=true then absO (wNode k n nm (fun g s=>wFs ks g 0 s) s) else none:=fun set s=>by
   unfold oPart;by_cases hv:(numB k n&&namB k nm&&kidB k n ks.len&&(isSetK k==set))=true
   ·rw[if_pos hv];by_cases ho:okS ks (k==21)=true
    ·rw[if_pos (by rw[hv,ho];rfl)];exact node_abs (fun g s hg=>by
      show oFs ks (k==21) g 0 (absO s)=_;rw[fs_abs ks (k==21) g 0 s (fun e=>hg (by simpa using e)),ho,cond_true]) s
    ·rw[if_neg (by intro e;simp only[Bool.and_eq_true] at e;exact ho e.2)];refine node_none (fun g s hg=>?_) ?_ s
     ·show oFs ks (k==21) g 0 (absO s)=_;rw[fs_abs ks (k==21) g 0 s (fun e=>hg (by simpa using e)),show okS ks (k==21)=false by simpa using ho,cond_false]
     ·intro hk;have hkid:kidB k n ks.len=true:=by simp only[Bool.and_eq_true] at hv;exact hv.1.2
      have hl:=leaf_len hkid hk;cases ks using Fs.on with
      | nil=>exact ho (by simp only[okS])
      | cons _ _ _ _ _ _=>simp[Fs.len] at hl
   ·rw[if_neg hv,if_neg (by intro e;simp only[Bool.and_eq_true] at e hv;exact hv e.1)]
  by_cases hv:((numB k n&&namB k nm&&kidB k n ks.len&&(isSetK k==first))&&okS ks (k==21))=true
  ·have e1:oE k n nm ks.len first (g i).2 (fun g s=>oFs ks (k==21) g 0 s) (absO (s.lay (g i).1))=absO (wE k n nm (g i).2 (fun g s=>wFs ks g 0 s) (s.lay (g i).1)):=by
    unfold oE wE;by_cases hr:rowOf k<(g i).2
    ·have hf:first=false:=by
      cases first with
      | false=>rfl
      | true=>have:=h rfl;omega
     subst hf;rw[if_pos hr,if_pos hr,abs_ent,abs_put,part,if_pos hv,abs_lea,abs_put,lea_lay]
    ·rw[if_neg hr,if_neg hr,part,if_pos hv]
   rw[e1,IHr,hv,Bool.true_and]
  ·rw[show ((numB k n&&namB k nm&&kidB k n ks.len&&(isSetK k==first))&&okS ks (k==21))=false from Bool.eq_false_iff.2 hv,Bool.false_and,cond_false];have e1:oE k n nm ks.len first (g i).2 (fun g s=>oFs ks (k==21) g 0 s) (absO (s.lay (g i).1))=none:=by
    unfold oE;by_cases hr:rowOf k<(g i).2
    ·have hf:first=false:=by
      cases first with
      | false=>rfl
      | true=>have:=h rfl;omega
     subst hf;rw[if_pos hr,abs_ent,abs_put,part,if_neg hv];rfl
    ·rw[if_neg hr,part,if_neg hv]
   rw[e1];exact fs_gone r false g (i+1)
theorem ble_no {a b:Nat}(h:¬a<=b):Nat.ble a b=false:=Bool.eq_false_iff.2 fun e=>h (Nat.le_of_ble_eq_true e)
theorem hFs_eq:∀ (f:Fs) (first:Bool) (c:Nat),c<=2000->hFs f first c=bif okS f first&&Nat.ble (c+f.size) 2000 then some (c+f.size) else none
 | ⟨none⟩,first,c,hc=>by
  have h1:Nat.ble c 2000=true:=Nat.ble_eq_true_of_le hc;simp only[hFs,okS,Fs.size,Nat.add_zero,h1,Bool.true_and,cond_true]
 | ⟨some ⟨k,n,nm,a,ks,r⟩⟩,first,c,hc=>by
  simp only[hFs,okS,Fs.size];by_cases hs:isSetK k=first
  ·rw[if_neg (by simp[hs])];by_cases h1:2000<c+1
   ·rw[if_pos h1,ble_no (show ¬c+(ks.size+r.size+1)<=2000 by omega),Bool.and_false,cond_false]
   ·rw[if_neg h1];by_cases hv:(numB k n&&namB k nm&&kidB k n ks.len)=true
    ·rw[if_pos hv,hFs_eq ks (k==21) (c+1) (by omega),show (isSetK k==first)=true by simp[hs],hv,Bool.true_and,Bool.true_and];by_cases ho:okS ks (k==21)=true
     ·rw[ho,Bool.true_and,Bool.true_and];by_cases h2:c+1+ks.size<=2000
      ·rw[Nat.ble_eq_true_of_le h2,cond_true];simp only;rw[hFs_eq r false (c+1+ks.size) h2,show c+(ks.size+r.size+1)=c+1+ks.size+r.size by omega]
      ·rw[ble_no h2,cond_false,ble_no (show ¬c+(ks.size+r.size+1)<=2000 by omega),Bool.and_false,cond_false]
     ·rw[show okS ks (k==21)=false by simpa using ho];simp
    ·rw[if_neg hv,show (numB k n&&namB k nm&&kidB k n ks.len)=false by simpa using hv];simp
  ·rw[if_pos (by simpa using hs),show (isSetK k==first)=false by simpa using hs];simp
def sepL:Fs->Sep->Nat->Nat
 | ⟨none⟩,_,_=>0
 | ⟨some ⟨_,_,_,_,_,r⟩⟩,g,i=>(g i).1.length+sepL r g (i+1)
theorem sep_one {f:Fs}{g:Sep}{i:Nat}(h:0<f.len):(g i).1.length<=sepL f g i:=by
 cases f using Fs.on with
 | nil=>simp[Fs.len] at h
 | cons k n nm a ks r=>simp only[sepL];omega
theorem sep_two {f:Fs}{g:Sep}{i:Nat}(h:1<f.len):(g (i+1)).1.length<=sepL f g i:=by
 cases f using Fs.on with
 | nil=>simp[Fs.len] at h
 | cons k n nm a ks r =>
  have h2:0<r.len:=by simp only[Fs.len] at h;omega
  have:=sep_one (g:=g) (i:=i+1) h2
  simp only[sepL];omega
theorem itoa_pos (n:Int):0<(Go.Lib.itoa n).length:=by
 unfold Go.Lib.itoa;split
 ·simp
 ·rw[Go.Lib.decDigits_length];exact Go.Lib.nDigits_pos _
theorem node_lb {k n:Int}{nm:List UInt8}{f:Fs}{K:Sep->St->St}(hv:(numB k n&&namB k nm&&kidB k n f.len)=true)(hK:∀ g s,s.t.length+f.size+sepL f g 0<=(K g s).t.length)(s:St):s.t.length+f.size+1<=(wNode k n nm K s).t.length:=by
 simp only[Bool.and_eq_true] at hv;obtain⟨⟨hn,hm⟩,hk⟩:=hv;have leaf:(k=1\/k=2\/k=3\/k=4\/k=22\/k=23)->f.size=0:=fun h=>by
  have:=leaf_len hk h
  cases f using Fs.on with
  | nil=>rfl
  | cons _ _ _ _ _ _=>simp[Fs.len] at this
 unfold wNode;by_cases h7:k=7
 ·rw[if_pos h7];have hl:0<f.len:=by rw[h7] at hk;simp[kidB] at hk;omega
  have h1:=hK (fun _=>([110,111,116,32],3)) s.ent;have h2:=sep_one (g:=fun _=>([110,111,116,32],3)) (i:=0) hl;simp only[St.lea,St.ent,List.length_cons,List.length_nil] at h1 h2 ⊢;omega
 rw[if_neg h7];by_cases h6:k=6
 ·rw[if_pos h6];have hl:0<f.len:=by rw[h6] at hk;simp[kidB] at hk;omega
  have h1:=hK (fun _=>([45],7)) s.ent;have h2:=sep_one (g:=fun _=>([45],7)) (i:=0) hl;simp only[St.lea,St.ent,List.length_cons,List.length_nil] at h1 h2 ⊢;omega
 rw[if_neg h6];by_cases h19:k=19
 ·rw[if_pos h19];have hl:0<f.len:=by rw[h19] at hk;simp[kidB] at hk;omega
  have h1:=hK ifS s.ent;have h2:=sep_one (g:=ifS) (i:=0) hl;have h3:(ifS 0).1.length=3:=rfl;simp only[St.lea,St.ent] at h1 ⊢;omega
 rw[if_neg h19];by_cases h21:k=21
 ·rw[if_pos h21];have hl:0<f.len:=by rw[h21] at hk;simp[kidB] at hk;omega
  have h1:=hK (quS n nm) s.ent.qent;have h2:=sep_one (g:=quS n nm) (i:=0) hl;have h3:1<=(quS n nm 0).1.length:=by simp[quS];omega
  simp only[St.lea,St.ent,St.qent,St.qlea] at h1 ⊢;omega
 rw[if_neg h21];have lst:∀ (x y:List UInt8) (s':St),1<=x.length->s'.t.length+f.size+1<=(wList x y K s').t.length:=fun x y s' hx=>by
  have h1:=hK comS (s'.ent.lay x);simp only[wList,St.lea,St.lay,St.ent,List.length_append] at h1 ⊢;omega
 by_cases h20:k=20
 ·rw[if_pos h20]
  have:=lst [40] [41] (s.lay (cword n)) (by simp)
  simp only[St.lay,List.length_append] at this ⊢;omega
 rw[if_neg h20];by_cases h24:k=24
 ·rw[if_pos h24]
  have:=lst [40] [41] (s.lay [97,114,111,117,110,100]) (by simp)
  simp only[St.lay,List.length_append] at this ⊢;omega
 rw[if_neg h24];by_cases h25:k=25
 ·rw[if_pos h25];exact lst [123] [125] s (by simp)
 rw[if_neg h25];unfold wPlain;by_cases h1:k=1
 ·rw[if_pos h1,leaf (.inl h1)]
  have:=itoa_pos n
  simp only[St.lay,List.length_append];omega
 rw[if_neg h1];by_cases h2:k=2
 ·rw[if_pos h2,leaf (by omega)]
  have:0<(Go.Lib.formatBool (n==1)).length:=by cases (n==1)<;>decide
  simp only[St.lay,List.length_append];omega
 rw[if_neg h2];by_cases h3:k=3
 ·rw[if_pos h3,leaf (by omega)];simp only[St.lay,List.length_append,List.length_cons,List.length_nil];omega
 rw[if_neg h3];by_cases h4:k=4\/k=23
 ·rw[if_pos h4,leaf (by omega)]
  have:0<nm.length:=by
   have hm2:nameB nm=true:=by
    unfold namB at hm;rw[if_pos (by simp only[Bool.or_eq_true,beq_iff_eq];omega)] at hm;exact hm
   cases nm with
   | nil=>simp[nameB] at hm2
   | cons _ _=>simp
  simp only[St.lay,List.length_append];omega
 rw[if_neg h4];by_cases h22:k=22
 ·rw[if_pos h22,leaf (by omega)];simp only[St.lay,List.length_append,List.length_cons,List.length_nil];omega
 rw[if_neg h22];have hop:(opOf k).isSome=true/\f.len=2:=by
  have h5:¬k=23:=fun e=>h4 (.inr e);have h6':¬k=4:=fun e=>h4 (.inl e);have h9:(opOf k).isSome=true/\(f.len:Int)=2:=by simpa [kidB,h1,h2,h3,h5,h6',h22,h6,h7,h24,h21,h19,h20,h25] using hk
  exact⟨h9.1,by omega⟩
 have h8:=hK (opS k) s;have h9:(opS k 1).1.length<=sepL f (opS k) 0:=sep_two (i:=0) (by omega);have h10:2<=(opS k 1).1.length:=by
  unfold opS;cases ho:opOf k with
  | none=>rw[ho] at hop;cases hop.1
  | some x=>simp
 omega
theorem fs_lb:∀ (f:Fs) (first:Bool) (g:Sep) (i:Nat) (s:St),okS f first=true->s.t.length+f.size+sepL f g i<=(wFs f g i s).t.length
 | ⟨none⟩,first,g,i,s,h=>by simp[Fs.size,sepL,wFs]
 | ⟨some ⟨k,n,nm,a,ks,r⟩⟩,first,g,i,s,h=>by
  simp only[okS,Bool.and_eq_true] at h;obtain⟨⟨⟨hv,hs⟩,hk⟩,hr⟩:=h;have h1:=fun s'=>node_lb (s:=s') (k:=k) (n:=n) (nm:=nm) (f:=ks) (K:=fun g s=>wFs ks g 0 s) (by simp only[Bool.and_eq_true];exact hv) (fun g s=>fs_lb ks _ g 0 s hk);have h2:(s.lay (g i).1).t.length+ks.size+1<=(wE k n nm (g i).2 (fun g s=>wFs ks g 0 s) (s.lay (g i).1)).t.length:=by
   unfold wE;split
   ·have:=h1 ((s.lay (g i).1).ent.lay [40])
    simp only[St.lea,St.lay,St.ent,List.length_append] at this ⊢;omega
   ·exact h1 _
  have h3:=fs_lb r false g (i+1) (wE k n nm (g i).2 (fun g s=>wFs ks g 0 s) (s.lay (g i).1)) hr;simp only[wFs,Fs.size,sepL,St.lay,List.length_append] at h2 h3 ⊢;omega
def refA (e:Ex):Option (List UInt8):=(oEx e false (some ⟨[],0,0⟩)).map (·.t)
theorem abs_s0:absO s0=some ⟨[],0,0⟩:=rfl
theorem refA_eq (e:Ex):refA e=writA e:=by
 unfold refA writA oEx oPart;rw[<-abs_s0];by_cases hs:isSetK e.k=true
 ·rw[if_pos hs,if_neg (by simp[hs])];rfl
 ·have hs2:isSetK e.k=false:=by simpa using hs
  rw[if_neg hs];have hE1:hE e 0=if (numB e.k e.n&&namB e.k e.nm&&kidB e.k e.n e.kids.len)=true then hFs e.kids (e.k==21) (0+1) else none:=by unfold hE;rw[if_neg (by omega)]
  rw[hE1];by_cases hv:(numB e.k e.n&&namB e.k e.nm&&kidB e.k e.n e.kids.len)=true
  ·rw[if_pos (show (numB e.k e.n&&namB e.k e.nm&&kidB e.k e.n e.kids.len&&(isSetK e.k==false))=true by rw[hv,hs2];rfl),if_pos hv,hFs_eq _ _ _ (by omega)];have hw:wEx e 0 s0=wNode e.k e.n e.nm (fun g s=>wFs e.kids g 0 s) s0:=by unfold wEx wE;rw[if_neg (by omega)]
   by_cases ho:okS e.kids (e.k==21)=true
   ·rw[node_abs (K:=fun g s=>wFs e.kids g 0 s) (fun g s hg=>by
     show oFs e.kids (e.k==21) g 0 (absO s)=_;rw[fs_abs e.kids (e.k==21) g 0 s (fun e=>hg (by simpa using e)),ho,cond_true]) s0,ho,Bool.true_and,<-hw]
    by_cases hr:roomB (wEx e 0 s0)=true
    ·have hlb:=node_lb hv (fun g s=>fs_lb e.kids (e.k==21) g 0 s ho) s0;rw[<-hw] at hlb;have hrr:=(room_iff _).1 hr;have hs0:s0.t.length=0:=rfl;rw[show Nat.ble (0+1+e.kids.size) 2000=true from Nat.ble_eq_true_of_le (by omega),cond_true];simp only[absO,hr,if_true];rfl
    ·rw[show absO (wEx e 0 s0)=none from if_neg hr];cases hd:Nat.ble (0+1+e.kids.size) 2000 with
     | false=>rfl
     | true=>simp only[cond_true];rw[if_neg hr];rfl
   ·have ho2:okS e.kids (e.k==21)=false:=by simpa using ho
    rw[ho2,Bool.false_and,cond_false,node_none (fun g s hg=>by
     show oFs e.kids (e.k==21) g 0 (absO s)=_;rw[fs_abs e.kids (e.k==21) g 0 s (fun e=>hg (by simpa using e)),ho2,cond_false]) (fun hk=>by
      have hkid:kidB e.k e.n e.kids.len=true:=by simp only[Bool.and_eq_true] at hv;exact hv.2
      have hl:=leaf_len hkid hk;cases hke:e.kids using Fs.on with
      | nil=>rw[hke] at ho;exact ho (by simp only[okS])
      | cons _ _ _ _ _ _=>rw[hke] at hl;simp[Fs.len] at hl) s0]
    rfl
  ·rw[if_neg (show ¬(numB e.k e.n&&namB e.k e.nm&&kidB e.k e.n e.kids.len&&(isSetK e.k==false))=true from fun h=>hv (by rw[Bool.and_eq_true] at h;exact h.1)),if_neg hv];rfl
def WR (w:World)(o:Nat->Nat)(wb:Nat)(t:List UInt8)(oo qq:Int)(ok:Bool):Prop :=
 ∃v,Blk w o 1 wb (.cells #[v,.int .i64 oo,.int .i64 qq,.bool ok] 226 (0,0))/\Row w o 2 5 1 v t.length (byL t)
def WQ (w:World)(o:Nat->Nat)(wb:Nat):Ow->Prop
 | some s=>WR w o wb s.t (s.o:Nat) (s.q:Nat) true/\s.t.length<=2000/\s.o<=64/\s.q<=4
 | none=>∃t oo qq,WR w o wb t oo qq false/\t.length<=2000
theorem WR.step {I:Nat->Prop}{w w':World}{o o':Nat->Nat}{wb:Nat}{t:List UInt8}{oo qq:Int}{ok:Bool}(h:WR w o wb t oo qq ok)(s:Step I w o w' o')(h1:¬I 1)(h2:¬I 2):WR w' o' wb t oo qq ok:=by
 obtain⟨v,hb,hr⟩:=h;exact⟨v,hb.step s h1,hr.step s h2⟩
theorem WQ.step {I:Nat->Prop}{w w':World}{o o':Nat->Nat}{wb:Nat}{st:Ow}(h:WQ w o wb st)(s:Step I w o w' o')(h1:¬I 1)(h2:¬I 2):WQ w' o' wb st:=by
 match st,h with
 | some x,h=>exact⟨h.1.step s h1 h2,h.2⟩
 | none,⟨t,oo,qq,h,hl⟩=>exact⟨t,oo,qq,h.step s h1 h2,hl⟩
theorem WQ.raw {w:World}{o:Nat->Nat}{wb:Nat}{st:Ow}(h:WQ w o wb st):∃t oo qq ok,WR w o wb t oo qq ok/\t.length<=2000:=by
 match st,h with
 | some x,h=>exact⟨_,_,_,_,h.1,h.2.1⟩
 | none,⟨t,oo,qq,h,hl⟩=>exact⟨t,oo,qq,_,h,hl⟩
theorem WR.cells {w:World}{o:Nat->Nat}{wb:Nat}{t:List UInt8}{oo qq:Int}{ok:Bool}(h:WR w o wb t oo qq ok):w.cell? ⟨wb,1,none⟩=some (.int .i64 oo)/\w.cell? ⟨wb,2,none⟩=some (.int .i64 qq)/\w.cell? ⟨wb,3,none⟩=some (.bool ok)/\∀ j,w.frozen? ⟨wb,j,none⟩=false:=by
 obtain⟨v,hb,hr⟩:=h;obtain⟨c0,c1,c2,c3,cf⟩:=Blk.cells4 hb;exact⟨c1,c2,c3,cf⟩
theorem WR.set {w:World}{o:Nat->Nat}{wb:Nat}{t:List UInt8}{oo qq:Int}{ok:Bool}(h:WR w o wb t oo qq ok) :
  (∀ oo',WR (w.setCell ⟨wb,1,none⟩ (.int .i64 oo')) o wb t oo' qq ok)/\(∀ qq',WR (w.setCell ⟨wb,2,none⟩ (.int .i64 qq')) o wb t oo qq' ok)/\(∀ ok',WR (w.setCell ⟨wb,3,none⟩ (.bool ok')) o wb t oo qq ok'):=by
 obtain⟨v,hb,hr⟩:=h;have s:∀ (j:Nat) (u:Value),Step (fun k=>k=1) w o (w.setCell ⟨wb,j,none⟩ u) o:=fun j u=>setStep _ w o ⟨wb,j,none⟩ u hb.2;exact⟨fun oo'=>⟨v,hb.set 1 _,hr.step (s 1 _) (by decide)⟩,fun qq'=>⟨v,hb.set 2 _,hr.step (s 2 _) (by decide)⟩,fun ok'=>⟨v,hb.set 3 _,hr.step (s 3 _) (by decide)⟩⟩
theorem WR.setS {w:World}{o:Nat->Nat}{wb:Nat}{t:List UInt8}{oo qq:Int}{ok:Bool}(h:WR w o wb t oo qq ok)(j:Nat)(u:Value):Step I12 w o (w.setCell ⟨wb,j,none⟩ u) o:=by
 obtain⟨v,hb,hr⟩:=h;exact setStep _ w o ⟨wb,j,none⟩ u (.inl hb.2)
def PutP (w:World)(o:Nat->Nat)(wb:Nat)(t s:List UInt8)(oo qq:Int)(ok:Bool)(e:Ending)(w':World):Prop :=
 e=.returned (.tuple #[])/\∃o',Step I12 w o w' o'/\((2000<t.length+s.length/\WR w' o' wb t oo qq false)\/(t.length+s.length<=2000/\WR w' o' wb (t++s) oo qq ok))
theorem puts_raw {w:World}{o:Nat->Nat}{wb:Nat}{t:List UInt8}{oo qq:Int}{ok:Bool}(s:List UInt8)(h:WR w o wb t oo qq ok)(ht:t.length<=2000)(hs:s.length<=1000000) :
  Calls Tryz.prog 229 #[.pointer (some ⟨wb,0,none⟩),stv s] w (PutP w o wb t s oo qq ok):=by
 have hset:=h.set.2.2 false;have hst:=h.setS 3 (.bool false);obtain⟨v,hb,hr⟩:=h;obtain⟨c0,c1,c2,c3,cf⟩:=Blk.cells4 hb;obtain⟨ao,cap,rfl⟩:=hr.form;have hsz:=size_mk s;by_cases hl:2000<t.length+s.length
 ·have hlI:(2000:Int)<(t.length:Int)+(s.length:Int):=by omega
  have FIN:Hid (∀ wx,wx=w.setCell ⟨wb,3,none⟩ (.bool false)->PutP w o wb t s oo qq ok (.returned (.tuple #[])) wx):=fun wx e=>by subst e;exact⟨rfl,o,hst,.inl ⟨hl,hset⟩⟩
  clear hset hst hb hr;go_enter Tryz.func229,Tryz.ntmps229;go_wp2
  (try simp only[Exit.inBlock,Exit.then])
  refine bodyPost_ret (results_none rfl _ _ _) rfl ?_;exact FIN.out _ rfl
 ·have hlI:¬(2000:Int)<(t.length:Int)+(s.length:Int):=by omega
  obtain⟨ii,hii,hz0,hz1,hz2⟩:=info_parts infoU8;clear hset hst;go_enter Tryz.func229,Tryz.ntmps229;go_wp2_with (first|(at_builtin;refine wpList_append_str rfl (.tmp 20) (.tmp 21) 147 9 rfl 5 ii Tryz.underlying147 Tryz.underlying9 hii hz0 hz1 hz2 o 2 _ t.length (byL t) rfl hr ⟨s.toArray⟩ rfl ?c1 ?c2 ?_)|go_in)
  case c1=>unfold maxLen;omega
  case c2=>omega
  intro v' w' o' hr' hst;obtain⟨ao',cap',rfl⟩:=hr'.form;have hb':=hb.step hst (by decide);obtain⟨d0,d1,d2,d3,df⟩:=Blk.cells4 hb';have hb2:=hb'.set 0 (.slice ao' (t.length+s.length) cap');have s2:Step I12 w' o' (w'.setCell ⟨wb,0,none⟩ (.slice ao' (t.length+s.length) cap')) o':=setStep I12 w' o' ⟨wb,0,none⟩ (.slice ao' (t.length+s.length) cap') (.inl hb'.2);have s3:=(hst.mono (fun k hk=>(.inr hk:I12 k))).trans s2;have s4:Step (fun k=>k=1) w' o' (w'.setCell ⟨wb,0,none⟩ (.slice ao' (t.length+s.length) cap')) o':=setStep _ w' o' ⟨wb,0,none⟩ (.slice ao' (t.length+s.length) cap') hb'.2;have hr2:=hr'.step s4 (by decide);rw[byL_app] at hr2;have hr3:Row (w'.setCell ⟨wb,0,none⟩ (.slice ao' (t.length+s.length) cap')) o' 2 5 1 (.slice ao' (t.length+s.length) cap') (t++s).length (byL (t++s)):=by
   rw[List.length_append];exact hr2
  have FIN:Hid (∀ wx,wx=w'.setCell ⟨wb,0,none⟩ (.slice ao' (t.length+s.length) cap')->PutP w o wb t s oo qq ok (.returned (.tuple #[])) wx):=fun wx e=>by subst e;exact⟨rfl,o',s3,.inr ⟨by omega,_,hb2,hr3⟩⟩
  clear hr2 hst s2 s4 hr' hb hr c0 c1 c2 c3 cf hb2 hr3 s3 hb';go_wp2
  go_end0
  exact FIN.out _ rfl
def PostO (w:World)(o:Nat->Nat)(wb:Nat)(st:Ow)(e:Ending)(w':World):Prop:=e=.returned (.tuple #[])/\∃o',WQ w' o' wb st/\Step I12 w o w' o'
theorem puts_o {w:World}{o:Nat->Nat}{wb:Nat}{st:Ow}(s:List UInt8)(h:WQ w o wb st)(hs:s.length<=1000000) :
  Calls Tryz.prog 229 #[.pointer (some ⟨wb,0,none⟩),stv s] w (PostO w o wb (putO s st)):=by
 match st,h with
 | some x,h =>
  refine(puts_raw s h.1 h.2.1 hs).mono ?_;rintro e w' ⟨rfl,o',st',hh⟩;refine⟨rfl,o',?_,st'⟩;rcases hh with ⟨hl,hw⟩|⟨hl,hw⟩
  ·rw[show putO s (some x)=none by simp[putO,hl]];exact⟨_,_,_,hw,h.2.1⟩
  ·rw[show putO s (some x)=some ⟨x.t++s,x.o,x.q⟩ by simp[putO];omega];exact⟨hw,by simp only[List.length_append];exact hl,h.2.2⟩
 | none,⟨t,oo,qq,h,hl⟩ =>
  refine(puts_raw s h hl hs).mono ?_;rintro e w' ⟨rfl,o',st',hh⟩;refine⟨rfl,o',?_,st'⟩;rcases hh with ⟨hl2,hw⟩|⟨hl2,hw⟩
  ·exact⟨_,_,_,hw,hl⟩
  ·exact⟨_,_,_,hw,by simp only[List.length_append];exact hl2⟩
theorem WQ.ent {w:World}{o:Nat->Nat}{wb:Nat}{st:Ow}(h:WQ w o wb st):∃oo:Int,w.cell? ⟨wb,1,none⟩=some (.int .i64 oo)/\(∀ j,w.frozen? ⟨wb,j,none⟩=false)/\Step I12 w o (w.setCell ⟨wb,1,none⟩ (.int .i64 (wrap64 (oo+1)))) o /\
  ((64<wrap64 (oo+1)/\WQ ((w.setCell ⟨wb,1,none⟩ (.int .i64 (wrap64 (oo+1)))).setCell ⟨wb,3,none⟩ (.bool false)) o wb (entO st))\/(¬64<wrap64 (oo+1)/\WQ (w.setCell ⟨wb,1,none⟩ (.int .i64 (wrap64 (oo+1)))) o wb (entO st))):=by
 match st,h with
 | some x,h =>
  obtain⟨c1,c2,c3,cf⟩:=h.1.cells;refine⟨_,c1,cf,h.1.setS 1 _,?_⟩;have e:wrap64 ((x.o:Nat)+1)=((x.o+1:Nat):Int):=by have:=h.2.2.1;unfold wrap64;omega
  have hw:=h.1.set.1 (wrap64 ((x.o:Nat)+1));by_cases hl:64<x.o+1
  ·refine .inl ⟨by rw[e];omega,?_⟩;rw[show entO (some x)=none by simp[entO,hl]];exact⟨_,_,_,hw.set.2.2 false,h.2.1⟩
  ·refine .inr ⟨by rw[e];omega,?_⟩;rw[show entO (some x)=some ⟨x.t,x.o+1,x.q⟩ by simp[entO,hl]];rw[e] at hw ⊢;exact⟨hw,h.2.1,by show x.o+1<=64;omega,h.2.2.2⟩
 | none,⟨t,oo,qq,h,hl⟩ =>
  obtain⟨c1,c2,c3,cf⟩:=h.cells;refine⟨_,c1,cf,h.setS 1 _,?_⟩;have hw:=h.set.1 (wrap64 (oo+1));by_cases hl2:64<wrap64 (oo+1)
  ·exact .inl ⟨hl2,t,_,_,hw.set.2.2 false,hl⟩
  ·exact .inr ⟨hl2,t,_,_,hw,hl⟩
theorem WQ.qen {w:World}{o:Nat->Nat}{wb:Nat}{st:Ow}(h:WQ w o wb st):∃oo:Int,w.cell? ⟨wb,2,none⟩=some (.int .i64 oo)/\(∀ j,w.frozen? ⟨wb,j,none⟩=false)/\Step I12 w o (w.setCell ⟨wb,2,none⟩ (.int .i64 (wrap64 (oo+1)))) o /\
  ((4<wrap64 (oo+1)/\WQ ((w.setCell ⟨wb,2,none⟩ (.int .i64 (wrap64 (oo+1)))).setCell ⟨wb,3,none⟩ (.bool false)) o wb (qenO st))\/(¬4<wrap64 (oo+1)/\WQ (w.setCell ⟨wb,2,none⟩ (.int .i64 (wrap64 (oo+1)))) o wb (qenO st))):=by
 match st,h with
 | some x,h =>
  obtain⟨c1,c2,c3,cf⟩:=h.1.cells;refine⟨_,c2,cf,h.1.setS 2 _,?_⟩;have e:wrap64 ((x.q:Nat)+1)=((x.q+1:Nat):Int):=by have:=h.2.2.2;unfold wrap64;omega
  have hw:=h.1.set.2.1 (wrap64 ((x.q:Nat)+1));by_cases hl:4<x.q+1
  ·refine .inl ⟨by rw[e];omega,?_⟩;rw[show qenO (some x)=none by simp[qenO,hl]];exact⟨_,_,_,hw.set.2.2 false,h.2.1⟩
  ·refine .inr ⟨by rw[e];omega,?_⟩;rw[show qenO (some x)=some ⟨x.t,x.o,x.q+1⟩ by simp[qenO,hl]];rw[e] at hw ⊢;exact⟨hw,h.2.1,h.2.2.1,by show x.q+1<=4;omega⟩
 | none,⟨t,oo,qq,h,hl⟩ =>
  obtain⟨c1,c2,c3,cf⟩:=h.cells;refine⟨_,c2,cf,h.setS 2 _,?_⟩;have hw:=h.set.2.1 (wrap64 (qq+1));by_cases hl2:4<wrap64 (qq+1)
  ·exact .inl ⟨hl2,t,_,_,hw.set.2.2 false,hl⟩
  ·exact .inr ⟨hl2,t,_,_,hw,hl⟩
def Bal (st st':Ow):Prop:=∀ s',st'=some s'->∃s,st=some s/\s'.o=s.o/\s'.q=s.q
theorem WQ.lea {w:World}{o:Nat->Nat}{wb:Nat}{st:Ow}(h:WQ w o wb st)(hp:∀ s,st=some s->1<=s.o):∃oo:Int,w.cell? ⟨wb,1,none⟩=some (.int .i64 oo)/\(∀ j,w.frozen? ⟨wb,j,none⟩=false)/\Step I12 w o (w.setCell ⟨wb,1,none⟩ (.int .i64 (wrap64 (oo-1)))) o/\WQ (w.setCell ⟨wb,1,none⟩ (.int .i64 (wrap64 (oo-1)))) o wb (leaO st):=by
 match st,h with
 | some x,h =>
  obtain⟨c1,c2,c3,cf⟩:=h.1.cells;refine⟨_,c1,cf,h.1.setS 1 _,?_⟩;have h1:=hp x rfl;have e:wrap64 ((x.o:Nat)-1)=((x.o-1:Nat):Int):=by have:=h.2.2.1;unfold wrap64;omega
  rw[e];exact⟨h.1.set.1 _,h.2.1,by show x.o-1<=64;have:=h.2.2.1;omega,h.2.2.2⟩
 | none,⟨t,oo,qq,h,hl⟩ =>
  obtain⟨c1,c2,c3,cf⟩:=h.cells;exact⟨_,c1,cf,h.setS 1 _,t,_,_,h.set.1 _,hl⟩
theorem WQ.qle {w:World}{o:Nat->Nat}{wb:Nat}{st:Ow}(h:WQ w o wb st)(hp:∀ s,st=some s->1<=s.q):∃oo:Int,w.cell? ⟨wb,2,none⟩=some (.int .i64 oo)/\(∀ j,w.frozen? ⟨wb,j,none⟩=false)/\Step I12 w o (w.setCell ⟨wb,2,none⟩ (.int .i64 (wrap64 (oo-1)))) o/\WQ (w.setCell ⟨wb,2,none⟩ (.int .i64 (wrap64 (oo-1)))) o wb (qleO st):=by
 match st,h with
 | some x,h =>
  obtain⟨c1,c2,c3,cf⟩:=h.1.cells;refine⟨_,c2,cf,h.1.setS 2 _,?_⟩;have h1:=hp x rfl;have e:wrap64 ((x.q:Nat)-1)=((x.q-1:Nat):Int):=by have:=h.2.2.2;unfold wrap64;omega
  rw[e];exact⟨h.1.set.2.1 _,h.2.1,h.2.2.1,by show x.q-1<=4;have:=h.2.2.2;omega⟩
 | none,⟨t,oo,qq,h,hl⟩ =>
  obtain⟨c1,c2,c3,cf⟩:=h.cells;exact⟨_,c2,cf,h.setS 2 _,t,_,_,h.set.2.1 _,hl⟩
theorem WQ.end {w:World}{o:Nat->Nat}{wb:Nat}{st:Ow}(h:WQ w o wb st):w.cell? ⟨wb,3,none⟩=some (.bool st.isSome)/\(∀ j,w.frozen? ⟨wb,j,none⟩=false)/\Step I12 w o (w.setCell ⟨wb,3,none⟩ (.bool false)) o/\WQ (w.setCell ⟨wb,3,none⟩ (.bool false)) o wb none:=by
 match st,h with
 | some x,h =>
  obtain⟨c1,c2,c3,cf⟩:=h.1.cells;exact⟨c3,cf,h.1.setS 3 _,_,_,_,h.1.set.2.2 false,h.2.1⟩
 | none,⟨t,oo,qq,h,hl⟩ =>
  obtain⟨c1,c2,c3,cf⟩:=h.cells;exact⟨c3,cf,h.setS 3 _,_,_,_,h.set.2.2 false,hl⟩
theorem opens_o {w:World}{o:Nat->Nat}{wb:Nat}{st:Ow}(s:List UInt8)(h:WQ w o wb st)(hs:s.length<=1000000) :
  Calls Tryz.prog 231 #[.pointer (some ⟨wb,0,none⟩),stv s] w (PostO w o wb (putO s (entO st))):=by
 obtain⟨oo,c1,cf,S1,hh⟩:=h.ent;obtain⟨w1,hw1⟩:∃w1,w1=w.setCell ⟨wb,1,none⟩ (.int .i64 (wrap64 (oo+1))):=⟨_,rfl⟩
 have d1:w1.cell? ⟨wb,1,none⟩=some (.int .i64 (wrap64 (oo+1))):=by rw[hw1];exact World.cell?_setCell_same _ _ _ c1
 have df:∀ j,w1.frozen? ⟨wb,j,none⟩=false:=fun j=>by rw[hw1];exact(World.frozen?_setCell ..).trans (cf j)
 have d3:w1.cell? ⟨wb,3,none⟩=some (.bool st.isSome):=by rw[hw1];exact(World.cell?_setCell_other _ _ _ _ (by simp)).trans h.end.1
 rw[<-hw1] at hh S1;obtain⟨W,hW⟩:∃W,W=putO s (entO st):=⟨_,rfl⟩
 rw[<-hW];have HW:Hid (W=putO s (entO st)):=hW;clear hW h;rcases hh with ⟨hl,hq⟩|⟨hl,hq⟩
 ·have S2:Step I12 w o (w1.setCell ⟨wb,3,none⟩ (.bool false)) o:=by
   obtain⟨t,oo2,qq,ok,hr,_⟩:=hq.raw;refine S1.trans ?_;obtain⟨v,hb,_⟩:=hr;exact setStep _ w1 o ⟨wb,3,none⟩ _ (.inl hb.2)
  have c2:=puts_o s hq hs;rw[<-HW.out] at c2;clear hq S1 HW;go_enter Tryz.func231,Tryz.ntmps231;go_upto_region 1 with fail;rw[<-hw1];clear hw1;go_upto_region 3 with fail;generalize w1.setCell ⟨wb,3,none⟩ (.bool false)=w2 at *;clear d1 df d3 c1 cf;go_wp2_with fail;refine c2.mono ?_;rintro e w3 ⟨rfl,o3,h3,s3⟩;have S3:=S2.trans s3;clear c2 S2 s3;go_wp2
  go_end0
  exact⟨rfl,o3,h3,S3⟩
 ·have c2:=puts_o s hq hs;rw[<-HW.out] at c2;clear hq HW;go_enter Tryz.func231,Tryz.ntmps231;go_upto_region 1 with fail;rw[<-hw1];clear hw1 c1 cf;go_wp2_with fail;refine c2.mono ?_;rintro e w3 ⟨rfl,o3,h3,s3⟩;have S3:=S1.trans s3;clear c2 S1 s3;go_wp2
  go_end0
  exact⟨rfl,o3,h3,S3⟩
end Go.Proofs.YtkhgahljbpmfaaaGreatDoor
