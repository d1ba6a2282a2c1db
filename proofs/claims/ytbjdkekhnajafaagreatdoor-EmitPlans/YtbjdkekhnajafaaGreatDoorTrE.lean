import Derived.Test.YtbjdkekhnajafaaGreatDoorTrB
set_option maxRecDepth 100000
set_option maxHeartbeats 8000000
namespace Go.Proofs.YtbjdkekhnajafaaGreatDoor
open Go.ChangeShapes Go.WideShapes Go.ChangeAt Go.RowKit
set_option linter.unusedVariables false
set_option linter.unusedSimpArgs false
structure mR (N:Nat)(e:Ex)(nb:Nat):Prop where
 sz:e.kids.size<N
 ok:e.okA
 st:bm e.k=false
 sk:e.kids.stk (e.k==21)
 len:e.kids.len<=1000000000
 sh:e.kids.short
 bl:nb+e.kids.size<=3000
def bX (w:World)(wb:Nat)(bv:Value)(r:Sum (Nat × Int) Int)(x:Ending)(w':World):Prop :=
 (∃k',x=.returned (.int .i64 k')/\∀ k,r=.inr k->k'=k)/\Wk w' wb bv (stS r)/\au wb w w'
def jU (N:Nat):Prop:=∀ (e:Ex) (ao:Option Addr) (cap wb:Nat) (bv:Value) (b:List (List UInt8)) (w:World),mR N e b.length->Wk w wb bv none->Nmk wb w bv b->Sl w (Nf wb) e.kids ao ->
 Calls Tryz.prog 100 #[.pointer (some ⟨wb,0,none⟩),exV e ao cap] w (bX w wb bv (bK e b))
def lK (w:World)(wb:Nat)(bv:Value)(st:Er)(x:Ending)(w':World):Prop:=x=.returned (.tuple #[])/\Wk w' wb bv st/\au wb w w'
theorem Sl.belowF {fb:Nat}{w w':World}{f:Fs}{ao:Option Addr}(h:Sl w (Nf fb) f ao)(b:Below w.heap.size w w'):Sl w' (Nf fb) f ao:=h.mono (fun i _ hl=>b.block i hl) b.size (fun _ h _=>h)
theorem Nmk.below {wb:Nat}{w w':World}{v:Value}{b:List (List UInt8)}(h:Nmk wb w v b)(B:Below w.heap.size w w'):Nmk wb w' v b:=⟨h.1.below B,h.2⟩
theorem Wk.below {w w':World}{wb:Nat}{bv:Value}{st:Er}(h:Wk w wb bv st)(B:Below w.heap.size w w'):Wk w' wb bv st:=⟨(B.block _ (lt_of_block h.blk)).trans h.blk,h.ok⟩
theorem au.bel {rb:Nat}{w a b:World}(B:Below w.heap.size w a)(K:au rb a b):au rb w b:=(au.ofBelow B).trans K
theorem eR {N:Nat}(IH:jU N)(e:Ex)(ao:Option Addr)(cap wb:Nat)(bv:Value)(b:List (List UInt8))(m:Int)(st:Er)(w:World)(hr:mR N e b.length)(hm:st=none->m≠0)(h:Wk w wb bv st)(hn:st=none->Nmk wb w bv b)(S:Sl w (Nf wb) e.kids ao) :
  Calls Tryz.prog 162 #[.pointer (some ⟨wb,0,none⟩),exV e ao cap,.int .i64 m] w (lK w wb bv (bf st m e b)):=by
 have B0:Below w.heap.size w (w.alloc (.cells #[.int .i64 e.k,.int .i64 e.n,stv e.nm,.slice ao e.kids.len cap,.int .i64 e.a] 25)):=(Below.refl _ w).alloc (Nat.le_refl _) _;have E0:(w.alloc (.cells #[.int .i64 e.k,.int .i64 e.n,stv e.nm,.slice ao e.kids.len cap,.int .i64 e.a] 25)).heap[w.heap.size]?=some (.cells #[.int .i64 e.k,.int .i64 e.n,stv e.nm,.slice ao e.kids.len cap,.int .i64 e.a] 25):=heap_alloc_new w _;have W0:=h.below B0;have S0:=Sl.belowF S B0;have hwb:=lt_of_block h.blk;have N0:=fun hs=>(hn hs).below B0;clear h hn S;rw[am];go_enter Tryz.func162,Tryz.ntmps162;go_upto_region 1 with fail;generalize w.alloc (.cells #[.int .i64 e.k,.int .i64 e.n,stv e.nm,.slice ao e.kids.len cap,.int .i64 e.a] 25)=w0 at *;obtain⟨bx,hbx⟩:∃bx,bx=w.heap.size:=⟨_,rfl⟩
 have hwbx:wb≠bx:=by omega
 rw[<-hbx] at E0 B0 ⊢;have HB:Hid (bx=w.heap.size):=hbx;clear hbx;obtain⟨p0,p1,p2,p3,p4,pf⟩:=ai E0;obtain⟨q0,q1,q2,qf⟩:=it W0.blk;cases st with
 | some z =>
  have hz:=W0.ok z rfl;obtain⟨er,pa⟩:=z;simp only[erO,plO] at q1 q2 hz;have hne:((er:Int) != 0)=true:=by simp;omega
  have HZ:Hid (lK w wb bv (bf (some (er,pa)) m e b) (.returned (.tuple #[])) w0):=⟨rfl,W0,au.ofBelow (by rw[<-HB.out];exact B0)⟩
  clear W0 N0 S0 hr;go_wp2
  go_end0
  exact HZ.out
 | none =>
  have HM:Hid (m≠0):=hm rfl;simp only[erO,plO] at q1 q2;have c1:=IH e ao cap wb bv b w0 hr W0 (N0 rfl) S0;rw[am] at c1;go_wp2_with fail;refine c1.mono ?_;rintro x w1 ⟨⟨k',rfl,hk'⟩,W1,K1⟩;have E1:=(K1.block _ (lt_of_block E0) (Ne.symm hwbx)).trans E0;have KW:au wb w w1:=au.bel (by rw[<-HB.out];exact B0) K1;clear c1 p0 p1 p2 p3 p4 pf q0 q1 q2 qf W0 N0 S0 E0 B0 K1;obtain⟨p0,p1,p2,p3,p4,pf⟩:=ai E1;obtain⟨q0,q1,q2,qf⟩:=it W1.blk;cases hc:bK e b with
  | inl z =>
   obtain⟨er,pa⟩:=z;have her:=sY hc;rw[hc] at W1 q1 q2;simp only[stS,erO,plO] at q1 q2;have hne:((er:Int)==0)=false:=by simp;omega
   have HZ:Hid (lK w wb bv (bf none m e b) (.returned (.tuple #[])) w1):=⟨rfl,by unfold bf;simp only;rw[hc];exact W1,KW⟩
   clear W1 hr hc hk' her KW;go_wp2
   go_end0
   exact HZ.out
  | inr k =>
   obtain rfl:=hk' k hc;rw[hc] at W1 q1 q2;simp only[stS,erO,plO] at q1 q2 W1;by_cases hkm:k'=m
   ·have hne:(k' != m)=false:=by simpa using hkm
    have HZ:Hid (lK w wb bv (bf none m e b) (.returned (.tuple #[])) w1):=by
     refine⟨rfl,?_,KW⟩;unfold bf;simp only;rw[hc];simp only[eb];rw[if_neg (fun h=>h.2 hkm)];exact W1
    clear W1 hr hc hk' KW hkm;go_wp2
    go_end0
    exact HZ.out
   ·have hne:(k' != m)=true:=by simpa using hkm
    have c2:=tR w1 wb bv 131 e.a (by decide) W1;have hmu:Hid (bf none m e b=some (131,e.a)):=by
     show _=_;unfold bf;simp only;rw[hc];simp only[eb];rw[if_pos ⟨HM.out,hkm⟩];rfl
    clear W1 hr hc hk' hkm;go_wp2_with fail;refine c2.mono ?_;rintro x w3 ⟨rfl,W3,K3⟩;have HZ:Hid (lK w wb bv (bf none m e b) (.returned (.tuple #[])) w3):=⟨rfl,by rw[hmu.out];exact W3,KW.trans K3⟩
    clear c2 W3 K3 KW;go_wp2
    go_end0
    exact HZ.out
theorem dU {N:Nat}(IH:jU N)(e x y:Ex)(ao:Option Addr)(cap wb:Nat)(bv:Value)(b:List (List UInt8))(m g:Int)(w:World)(hk:e.kids=Fs.ex x (Fs.ex y .nil))(hx:mR N x b.length)(hy:mR N y b.length)(hm:m≠0)(h:Wk w wb bv none)(hn:Nmk wb w bv b)(S:Sl w (Nf wb) e.kids ao) :
  Calls Tryz.prog 163 #[.pointer (some ⟨wb,0,none⟩),exV e ao cap,.int .i64 m,.int .i64 g] w fun z w'=>z=.returned (.int .i64 g)/\Wk w' wb bv (bf (bf none m x b) m y b)/\au wb w w':=by
 have hlen:e.kids.len=2:=by rw[hk];rfl
 have HK:Hid (e.kids=Fs.ex x (Fs.ex y .nil)):=hk;have HL:Hid (e.kids.len=2):=hlen;clear hk hlen;have B0:Below w.heap.size w (w.alloc (.cells #[.int .i64 e.k,.int .i64 e.n,stv e.nm,.slice ao e.kids.len cap,.int .i64 e.a] 25)):=(Below.refl _ w).alloc (Nat.le_refl _) _;have E0:(w.alloc (.cells #[.int .i64 e.k,.int .i64 e.n,stv e.nm,.slice ao e.kids.len cap,.int .i64 e.a] 25)).heap[w.heap.size]?=some (.cells #[.int .i64 e.k,.int .i64 e.n,stv e.nm,.slice ao e.kids.len cap,.int .i64 e.a] 25):=heap_alloc_new w _;have W0:=h.below B0;have S0:=Sl.belowF S B0;have hwb:=lt_of_block h.blk;have N0:=hn.below B0;clear h hn S;rw[am];go_enter Tryz.func163,Tryz.ntmps163;go_upto_region 1 with fail;generalize w.alloc (.cells #[.int .i64 e.k,.int .i64 e.n,stv e.nm,.slice ao e.kids.len cap,.int .i64 e.a] 25)=w0 at *;obtain⟨bx,hbx⟩:∃bx,bx=w.heap.size:=⟨_,rfl⟩
 have hwbx:wb≠bx:=by omega
 rw[<-hbx] at E0 B0 ⊢;have HB:Hid (bx=w.heap.size):=hbx;clear hbx;rw[HL.out] at E0 ⊢;obtain⟨p0,p1,p2,p3,p4,pf⟩:=ai E0;have S0x:Sl w0 (Nf wb) (Fs.nil.app (Fs.ex x (Fs.ex y .nil))) ao:=by rw[HK.out] at S0;exact S0
 obtain⟨kb,off,ak,ck,hao,x0,x1,x2,x3,x4,SK⟩:=Sl.kidP S0x 0 rfl;subst hao;simp only[Nat.zero_mul,Nat.add_zero] at x0 x1 x2 x3 x4;have c1:=eR IH x ak ck wb bv b m none w0 hx (fun _=>hm) W0 (fun _=>N0) SK;rw[am] at c1;go_wp2_with fail;refine c1.mono ?_;rintro z w1 ⟨rfl,W1,K1⟩;have E1:=(K1.block _ (lt_of_block E0) (Ne.symm hwbx)).trans E0;have S1:Sl w1 (Nf wb) ((Fs.ex x .nil).app (Fs.ex y .nil)) (some ⟨kb,off,none⟩):=by
  have:=Sl.keepF S0 K1
  rw[HK.out] at this;exact this
 have N1:=N0.keep K1;have KW:au wb w w1:=au.bel (by rw[<-HB.out];exact B0) K1;clear c1 p0 p1 p2 p3 p4 pf x0 x1 x2 x3 x4 SK S0x S0 W0 N0 E0 B0 K1;obtain⟨p0,p1,p2,p3,p4,pf⟩:=ai E1;obtain⟨kb',off',ak,ck,hao,x0,x1,x2,x3,x4,SK⟩:=Sl.kidP S1 1 rfl;injection hao with hao
 injection hao with h1 h2
 subst h1;subst h2;have c2:=eR IH y ak ck wb bv b m _ w1 hy (fun _=>hm) W1 (fun _=>N1) SK;rw[am] at c2;go_wp2_with fail;refine c2.mono ?_;rintro z w2 ⟨rfl,W2,K2⟩;have HZ:Hid (Wk w2 wb bv (bf (bf none m x b) m y b)/\au wb w w2):=⟨W2,KW.trans K2⟩
 clear c2 W2 K2 KW p0 p1 p2 p3 p4 pf x0 x1 x2 x3 x4 SK S1 W1 N1 E1;go_wp2;refine bodyPost_ret (v:=.int .i64 g) (by simp[results,Tryz.results163,go_sem]) rfl ⟨rfl,HZ.out.1,HZ.out.2⟩
theorem pj:∀ {x y:Fs},(x.app y).okA->y.okA
 | ⟨none⟩,y,h=>h
 | ⟨some ⟨k,n,nm,a,ks,r⟩⟩,y,h=>pj h.2.2
theorem jL:∀ (x:Fs),x.app .nil=x
 | ⟨none⟩=>rfl
 | ⟨some ⟨k,n,nm,a,ks,r⟩⟩=>by simp only[Fs.app];rw[jL r]
def Kds (N:Nat)(f:Fs)(nb:Nat):Prop:=∀ (d r:Fs) (y:Ex),f=d.app (Fs.ex y r)->mR N y nb
theorem Fs.app_stk:∀ {x y:Fs}{first:Bool},(x.app y).stk first->x.len≠0->y.stk false
 | ⟨none⟩,y,first,h,h0=>absurd rfl h0
 | ⟨some ⟨k,n,nm,a,ks,⟨none⟩⟩⟩,y,first,h,h0=>h.2.2
 | ⟨some ⟨k,n,nm,a,ks,⟨some r⟩⟩⟩,y,first,h,h0=>Fs.app_stk (x:=⟨some r⟩) h.2.2 (by simp[Fs.len])
theorem Fs.app_stkF {x y:Fs}(h:(x.app y).stk false):y.stk false:=by
 by_cases h0:x.len=0
 ·cases x using Fs.on with
  | nil=>exact h
  | cons k n nm a ks r=>simp[Fs.len] at h0
 ·exact Fs.app_stk h h0
theorem Kds.of {N:Nat}{f:Fs}{nb:Nat}(hs:f.size<=N)(hok:f.okA)(hsk:f.stk false)(hsh:f.short)(hbl:nb+f.size<=3000):Kds N f nb:=by
 intro d r y hf;subst hf;rw[Fs.size_app,oe] at hs hbl;have h1:=Fs.app_short hsh;have h2:=Fs.app_stkF hsk;have h3:(Fs.ex y r).okA:=pj hok;exact⟨by omega,(lu h3).1,h2.1,h2.2.1,h1.2.1,h1.2.2.1,by omega⟩
theorem As {N:Nat}(IH:jU N)(e s x:Ex)(ao:Option Addr)(cap wb:Nat)(bv:Value)(b:List (List UInt8))(w:World)(hk:e.kids=Fs.ex s (Fs.ex x .nil))(hs:Kds N s.kids b.length)(hsl:s.kids.len<=1000000000)(hx:mR N x (b.length+1))(h:Wk w wb bv none)(hn:Nmk wb w bv b)(S:Sl w (Nf wb) e.kids ao) :
  Calls Tryz.prog 164 #[.pointer (some ⟨wb,0,none⟩),exV e ao cap] w fun z w'=>z=.returned (.int .i64 (cm e.n))/\Wk w' wb bv (bf (eg s.kids none b) (cG e.n) x (b++[e.nm]))/\au wb w w':=by
 obtain⟨ii,hii,hzi0,hzi1,hzi2⟩:=aH ql;have hlen:e.kids.len=2:=by rw[hk];rfl
 have HK:Hid (e.kids=Fs.ex s (Fs.ex x .nil)):=hk;have HL:Hid (e.kids.len=2):=hlen;clear hk hlen;have B0:Below w.heap.size w (w.alloc (.cells #[.int .i64 e.k,.int .i64 e.n,stv e.nm,.slice ao e.kids.len cap,.int .i64 e.a] 25)):=(Below.refl _ w).alloc (Nat.le_refl _) _;have E0:(w.alloc (.cells #[.int .i64 e.k,.int .i64 e.n,stv e.nm,.slice ao e.kids.len cap,.int .i64 e.a] 25)).heap[w.heap.size]?=some (.cells #[.int .i64 e.k,.int .i64 e.n,stv e.nm,.slice ao e.kids.len cap,.int .i64 e.a] 25):=heap_alloc_new w _;have W0:=h.below B0;have S0:=Sl.belowF S B0;have hwb:=lt_of_block h.blk;have N0:=hn.below B0;clear h hn S;rw[am];go_enter Tryz.func164,Tryz.ntmps164;go_upto_region 1 with fail;generalize w.alloc (.cells #[.int .i64 e.k,.int .i64 e.n,stv e.nm,.slice ao e.kids.len cap,.int .i64 e.a] 25)=w0 at *;obtain⟨bx,hbx⟩:∃bx,bx=w.heap.size:=⟨_,rfl⟩
 have hwbx:wb≠bx:=by omega
 rw[<-hbx] at E0 B0 ⊢;have HB:Hid (bx=w.heap.size):=hbx;clear hbx;rw[HL.out] at E0 ⊢;obtain⟨p0,p1,p2,p3,p4,pf⟩:=ai E0;have S0x:Sl w0 (Nf wb) (Fs.nil.app (Fs.ex s (Fs.ex x .nil))) ao:=by rw[HK.out] at S0;exact S0
 obtain⟨kb,off,as',cs',hao,x0,x1,x2,x3,x4,SK⟩:=Sl.kidP S0x 0 rfl;subst hao;simp only[Nat.zero_mul,Nat.add_zero] at x0 x1 x2 x3 x4
 -- the set's box
 have B1:Below w0.heap.size w0 (w0.alloc (.cells #[.int .i64 s.k,.int .i64 s.n,stv s.nm,.slice as' s.kids.len cs',.int .i64 s.a] 25)):=(Below.refl _ w0).alloc (Nat.le_refl _) _;have Z1:(w0.alloc (.cells #[.int .i64 s.k,.int .i64 s.n,stv s.nm,.slice as' s.kids.len cs',.int .i64 s.a] 25)).heap[w0.heap.size]?=some (.cells #[.int .i64 s.k,.int .i64 s.n,stv s.nm,.slice as' s.kids.len cs',.int .i64 s.a] 25):=heap_alloc_new w0 _;have E1:=(B1.block _ (lt_of_block E0)).trans E0;have W1:=W0.below B1;have N1:=N0.below B1;have S1:=Sl.belowF S0 B1;have SK1:=Sl.belowF SK B1;have hwb1:wb<w0.heap.size:=lt_of_block W0.blk;go_upto_region 2 with fail;generalize w0.alloc (.cells #[.int .i64 s.k,.int .i64 s.n,stv s.nm,.slice as' s.kids.len cs',.int .i64 s.a] 25)=w1 at *;obtain⟨sb,hsb⟩:∃sb,sb=w0.heap.size:=⟨_,rfl⟩
 have hwsb:wb≠sb:=by omega
 rw[<-hsb] at Z1 ⊢;have BW1:Below bx w w1:=B0.trans (B1.mono (Nat.le_of_lt (lt_of_block E0)));clear hsb p0 p1 p2 p3 p4 pf x0 x1 x2 x3 x4 S0x S0 W0 N0 E0 B0 B1 SK;go_wp2;go_loopw [6] (fun v wr=>∃(d r:Fs),Hid (s.kids=d.app r)/\v=.int .i64 (d.len:Nat)/\Wk wr wb bv (eg d none b)/\au wb w1 wr) (fun v _=>s.kids.len-(intOf v).toNat)
 case atStart=>exact⟨.nil,s.kids,rfl,by show _=Value.int .i64 ((0:Nat):Int);rfl,W1,au.refl _ _⟩
 case round =>
  obtain⟨d,r,hf,rfl,W2,K2⟩:=hrel;have hlk:s.kids.len=d.len+r.len:=by rw[hf.out,Fs.len_app]
  have Z2:=(K2.block _ (lt_of_block Z1) (Ne.symm hwsb)).trans Z1;have E2:=(K2.block _ (lt_of_block E1) (Ne.symm hwbx)).trans E1;obtain⟨p0,p1,p2,p3,p4,pf⟩:=ai Z2;cases r using Fs.on with
  | nil =>
   have hl0:¬(d.len:Int)<(s.kids.len:Int):=by simp only[Fs.len] at hlk;omega
   have hdn:s.kids=d:=by rw[hf.out];clear hf hlk hl0 W2;exact jL d
   have W2':Wk wr wb bv (eg s.kids none b):=by rw[hdn];exact W2
   generalize hst:eg s.kids none b=st at W2';have HST:Hid (eg s.kids none b=st):=hst;have N2:=N1.keep K2;have S2:=Sl.keepF S1 K2;have KW2:au wb w wr:=au.bel (by rw[<-HB.out];exact BW1) K2;obtain⟨⟨av,capv,rfl,hcv,hp⟩,hpb⟩:=N2;obtain⟨q0,q1,q2,qf⟩:=it W2'.blk;clear hf hlk hdn hst W2 N1 S1 SK1 K2 W1 Z1 E1 BW1 hs;go_upto_region 8 with fail;go_cut [8] (fun v wx=>∃ao' cap' o',v=.slice ao' b.length cap'/\Row wx o' 1 9 1 v b.length (b.map fun x=>stv x)/\aa I1n wr (fun _=>0) wx o')
   case first =>
    rcases hp with ⟨hb0,rfl⟩|⟨g,rfl,hg,hpos,hcell⟩
    ·subst hb0;go_wp2;go_meet;exact⟨none,0,fun _=>0,by first|rfl|simp,Row.nil _ _ _ _ _,aa.refl _ _ _⟩
    ·have hnews:∀ j u,(b.map fun x=>stv x)[j]?=some u->wr.cell? ((⟨g,0,none⟩:Addr).add j)=some u:=fun j u hj=>by
      rw[List.getElem?_map] at hj;cases hb:b[j]? with
      | none=>rw[hb] at hj;cases hj
      | some t =>
       rw[hb] at hj;injection hj with hj
       subst hj;have h3:((⟨g,0,none⟩:Addr).add j)=⟨g,j,none⟩:=by simp[Addr.add];exact Eq.symm
       rw[h3];exact hcell j t hb
     have hone:∀ u ∈ (b.map fun x=>stv x),u.oneCell'=true:=fun u hu=>by
      obtain⟨x,_,rfl⟩:=List.mem_map.1 hu;rfl
     have hlb:(b.map fun x=>stv x).length=b.length:=List.length_map _;have hbl:=hx.bl;generalize (b.map fun x=>stv x)=xs at *;clear hcell;go_wp2_with (first|(at_builtin;refine aB rfl (.tmp 31) (.tmp 32) 40 rfl 9 ii (.string ⟨#[]⟩) 1 16 Tryz.underlying40 hii hzi0 hzi1 hzi2 rfl (by decide) (fun _=>0) 1 _ 0 [] rfl (Row.nil _ _ _ _ _) ⟨g,0,none⟩ b.length capv xs rfl (by first|omega|(rw[hlb];omega)) hnews hone (by omega) ?c3 ?c4 ?_)|go_in)
     case c3=>unfold maxLen;omega
     case c4=>omega
     intro g7 c7 w7 o7 r7 s7;have HS:Hid (aa I1n wr (fun _=>0) w7 o7/\Row w7 o7 1 9 1 (.slice (some ⟨g7,0,none⟩) b.length c7) b.length xs):=⟨s7,by simpa using r7⟩
     clear s7 r7 hnews hone;go_wp2;go_meet;exact⟨some ⟨g7,0,none⟩,c7,o7,by simp,HS.out.2,HS.out.1⟩
   case rest =>
    obtain⟨ao8,cap8,o8,rfl,R8,s8⟩:=hcut;have B8:Below wr.heap.size wr wc:=s8.below (fun _ _=>by decide);have E8:=(B8.block _ (lt_of_block E2)).trans E2;have W8:=W2'.below B8;have L8:Hid (∀ k,k<wr.heap.size->o8 k=0):=fun k hk=>s8.lab k hk;have hwbr:wb<wr.heap.size:=lt_of_block W2'.blk;clear q0 q1 q2 qf p0 p1 p2 p3 p4 pf;obtain⟨p0,p1,p2,p3,p4,pf⟩:=ai E8;obtain⟨q0,q1,q2,qf⟩:=it W8.blk;have s10:=aO (fun _=>False) wc o8 (.cells #[stv e.nm] 9);have R10:=R8.step s10 id;have hrc:wr.heap.size<=wc.heap.size:=B8.size;have L10:Hid (∀ k,k<wr.heap.size->ae wc o8 0 k=0):=fun k hk=>by rw[aC (by omega)];exact L8.out k hk
    have hbl:=hx.bl;have b1:b.length+1<=maxLen:=by unfold maxLen;omega
    have b2:(b.length+1)*16<=140737488355328:=by omega
    have hone:∀ u ∈ [stv e.nm],u.oneCell'=true:=by intro u hu;simp at hu;subst hu;rfl
    go_upto_region 9 with fail;go_cut [] (fun wx=>∃g11 c11,Wk wx wb (.slice (some ⟨g11,0,none⟩) (b.length+1) c11) st/\Nmk wb wx (.slice (some ⟨g11,0,none⟩) (b.length+1) c11) (b++[e.nm])/\au wb wr wx)
    case first =>
     go_wp2_with (first|(at_builtin;refine aB rfl (.tmp 35) (.tmp 38) 40 rfl 9 ii (.string ⟨#[]⟩) 1 16 Tryz.underlying40 hii hzi0 hzi1 hzi2 rfl (by decide) (ae wc o8 0) 1 _ b.length (b.map fun x=>stv x) rfl R10 ⟨wc.heap.size,0,none⟩ 1 1 [stv e.nm] rfl rfl (cL wc _ _) hone (by decide) b1 b2 ?_)|go_in);intro g11 c11 w11 o11 r11 s11;have B11:Below wr.heap.size wr w11:=ko (ko B8 s10 (fun _ _=>id) (Nat.le_refl _)) s11 (fun k hk=>by show ¬_=1;rw[L10.out k hk];decide) (Nat.le_refl _);have W11:=W2'.below B11;have hgo:o11 g11=1:=r11.2 g11 rfl;have hwo:o11 wb=0:=(s11.lab wb (by simp;omega)).trans (L10.out wb hwbr);have hgw:g11≠wb:=by intro h;rw[h] at hgo;omega
     have NM11:Nms w11 (.slice (some ⟨g11,0,none⟩) (b.length+1) c11) (b++[e.nm]):=Nms.ofRow (by rw[List.map_append];exact r11) (by simp) (by omega);have K12:au wb wr (w11.setCell ⟨wb,0,none⟩ (.slice (some ⟨g11,0,none⟩) (b.length+1) c11)):=(au.ofBelow B11).set ⟨wb,0,none⟩ _ (.inr rfl);have HZ:Hid (Wk (w11.setCell ⟨wb,0,none⟩ (.slice (some ⟨g11,0,none⟩) (b.length+1) c11)) wb (.slice (some ⟨g11,0,none⟩) (b.length+1) c11) st/\Nmk wb (w11.setCell ⟨wb,0,none⟩ (.slice (some ⟨g11,0,none⟩) (b.length+1) c11)) (.slice (some ⟨g11,0,none⟩) (b.length+1) c11) (b++[e.nm])/\au wb wr (w11.setCell ⟨wb,0,none⟩ (.slice (some ⟨g11,0,none⟩) (b.length+1) c11))):=by
      refine⟨⟨(AJ W11.blk _).1,W11.ok⟩,Nmk.keep ⟨NM11,fun g off n c h=>by injection h with h1;injection h1 with h1;injection h1 with h1;rw[<-h1];exact hgw⟩ ((au.refl wb w11).set ⟨wb,0,none⟩ _ (.inr rfl)),K12⟩
     obtain⟨t0,t1,t2,tf⟩:=it W11.blk;clear s11 r11 B11 hgo hwo hgw NM11 K12 W11 p0 p1 p2 p3 p4 pf q0 q1 q2 qf;go_wp2;go_meet;exact⟨g11,c11,HZ.out.1,HZ.out.2.1,HZ.out.2.2⟩
    case rest =>
     obtain⟨g11,c11,W12,N12,K12⟩:=hcut;have E12:=(K12.block _ (lt_of_block E2) (Ne.symm hwbx)).trans E2;have S12:Sl wc (Nf wb) ((Fs.ex s .nil).app (.cons x.k x.n x.nm x.a x.kids .nil)) (some ⟨kb,off,none⟩):=by
      have:=Sl.keepF S2 K12
      rw[HK.out] at this;exact this
     have KW12:=KW2.trans K12;clear p0 p1 p2 p3 p4 pf q0 q1 q2 qf R8 s8 B8 E8 W8 L8 s10 R10 hrc L10 b1 b2 hone E2 S2 W2' hp hpb hcv KW2 K12 Z2;obtain⟨p0,p1,p2,p3,p4,pf⟩:=ai E12;obtain⟨kb',off',ak,ck,hao,hk13,hkw,x0,x1,x2,x3,x4,SK⟩:=Sl.kidQ S12;injection hao with hao
     injection hao with h1 h2
     subst h1;subst h2;simp only[Fs.len,Fs.ex,Nat.zero_add,Nat.one_mul] at x0 x1 x2 x3 x4;have hb13:=lt_of_block E12;have hx':mR N x (b++[e.nm]).length:=by rw[List.length_append];exact hx
     have hbo:cG e.n≠0:=by unfold cG;split<;>omega
     have bdT:Below wc.heap.size wc wc.drew:=⟨rfl,rfl,rfl,Nat.le_refl _,fun _ _=>rfl⟩
     have c3:=eR IH x ak ck wb _ (b++[e.nm]) (cG e.n) st wc.drew hx' (fun _=>hbo) (W12.below bdT) (fun _=>N12.below bdT) (Sl.belowF SK bdT);rw[am] at c3;have hbq:=fun wy=>xO e.n wy;obtain⟨bo,hbo'⟩:∃bo,bo=cG e.n:=⟨_,rfl⟩
     rw[<-hbo'] at c3 hbq;have HBO:Hid (cG e.n=bo):=hbo'.symm;clear hbo' hbo;go_upto_region 10 with fail;go_cut [] (fun wx=>Wk wx wb (.slice (some ⟨g11,0,none⟩) (b.length+1) c11) (bf st bo x (b++[e.nm]))/\au wb wc wx)
     case first =>
      go_wp2_with fail;go_region_held3 (fun wx=>wx.cell? ⟨bx,1,none⟩=some (.int .i64 e.n)/\wx.cell? ⟨bx,3,none⟩=some (.slice (some ⟨kb,off,none⟩) 2 cap)/\wx.cell? ⟨kb,off+5,none⟩=some (.int .i64 x.k)/\wx.cell? ⟨kb,off+5+1,none⟩=some (.int .i64 x.n)/\wx.cell? ⟨kb,off+5+2,none⟩=some (stv x.nm)/\wx.cell? ⟨kb,off+5+3,none⟩=some (.slice ak x.kids.len ck)/\wx.cell? ⟨kb,off+5+4,none⟩=some (.int .i64 x.a))
       (first|exact KA|go_keep)
       (first
        | (go_at_call 171;refine(hbq _).mono ?_;rintro z w3 ⟨rfl,rfl⟩)
        | (go_at_call 162;refine c3.mono ?_;rintro z w3 ⟨rfl,W3,K3⟩;have KA:w3.cell? ⟨bx,1,none⟩=some (.int .i64 e.n)/\w3.cell? ⟨bx,3,none⟩=some (.slice (some ⟨kb,off,none⟩) 2 cap)/\w3.cell? ⟨kb,off+5,none⟩=some (.int .i64 x.k)/\w3.cell? ⟨kb,off+5+1,none⟩=some (.int .i64 x.n)/\w3.cell? ⟨kb,off+5+2,none⟩=some (stv x.nm)/\w3.cell? ⟨kb,off+5+3,none⟩=some (.slice ak x.kids.len ck)/\w3.cell? ⟨kb,off+5+4,none⟩=some (.int .i64 x.a):=⟨(K3.cell hb13 (Ne.symm hwbx) _).trans p1,(K3.cell hb13 (Ne.symm hwbx) _).trans p3,(K3.cell hk13 hkw _).trans x0,(K3.cell hk13 hkw _).trans x1,(K3.cell hk13 hkw _).trans x2,(K3.cell hk13 hkw _).trans x3,(K3.cell hk13 hkw _).trans x4⟩))
      all_goals (
       have HZ:Hid (Wk w3 wb (.slice (some ⟨g11,0,none⟩) (b.length+1) c11) (bf st bo x (b++[e.nm]))/\au wb wc w3):=⟨W3,au.bel bdT K3⟩
       clear KA W3 K3 c3 hbq;go_wp2;go_meet;exact HZ.out)
     case rest =>
      obtain⟨W13,K13⟩:=hcut;have E13:=(K13.block _ hb13 (Ne.symm hwbx)).trans E12;have KW13:=KW12.trans K13;have W14:Wk (wc.setCell ⟨wb,0,none⟩ (.slice av b.length capv)) wb (.slice av b.length capv) (bf st bo x (b++[e.nm])):=⟨(AJ W13.blk _).1,W13.ok⟩
      have K14:=KW13.trans ((au.refl wb wc).set ⟨wb,0,none⟩ (.slice av b.length capv) (.inr rfl));have E14:=(heap_setCell_other wc ⟨wb,0,none⟩ bx (.slice av b.length capv) (Ne.symm hwbx)).trans E13;obtain⟨q0,q1,q2,qf⟩:=it W13.blk;clear c3 hbq x0 x1 x2 x3 x4 SK S12 p0 p1 p2 p3 p4 pf E13 E12 KW12 KW13 K13 N12 W12 bdT W13;go_upto_region 12 with fail;generalize wc.setCell ⟨wb,0,none⟩ (.slice av b.length capv)=w14 at *;obtain⟨p0,p1,p2,p3,p4,pf⟩:=ai E14;have c5:=nX e.n w14;obtain⟨wo,hwo⟩:∃wo,wo=cm e.n:=⟨_,rfl⟩
      rw[<-hwo] at c5;have HWO:Hid (cm e.n=wo):=hwo.symm;clear hwo;go_wp2_with fail;refine c5.mono ?_;rintro z w15 ⟨rfl,rfl⟩;have HZ:Hid (Wk w15 wb (.slice av b.length capv) (bf st bo x (b++[e.nm]))/\au wb w w15):=⟨W14,K14⟩
      clear c5 W14 K14;go_wp2;refine bodyPost_ret (v:=.int .i64 wo) (by simp[results,Tryz.results164,go_sem]) rfl ⟨by first|rfl|rw[HWO.out],by rw[HST.out,HBO.out];exact HZ.out.1,HZ.out.2⟩
  | cons kk kn km ka kks kr =>
   have hl0:(d.len:Int)<(s.kids.len:Int):=by simp only[Fs.len] at hlk;omega
   have hl1:d.len<s.kids.len:=by simp only[Fs.len] at hlk;omega
   have SK2:Sl wr (Nf wb) (d.app (Fs.ex ⟨kk,kn,km,ka,kks⟩ kr)) as':=by
    have:=Sl.keepF SK1 K2
    rw[hf.out] at this;exact this
   obtain⟨gb,go,ak,ck,hao,x0,x1,x2,x3,x4,SKK⟩:=Sl.kidP SK2 d.len rfl;subst hao;have c1:=eR IH ⟨kk,kn,km,ka,kks⟩ ak ck wb bv b 3 _ wr (hs d kr _ hf.out) (fun _=>by decide) W2 (fun _=>N1.keep K2) SKK;rw[am] at c1;simp only at c1 x0 x1 x2 x3 x4;have hf2:Hid (s.kids=(d.snoc ⟨kk,kn,km,ka,kks⟩).app kr):=by show s.kids=_;rw[hf.out];unfold Fs.snoc;rw[Fs.app_assoc];rfl
   have hl2:(d.len:Int)+1=((d.snoc ⟨kk,kn,km,ka,kks⟩).len:Nat):=by rw[Fs.len_snoc];rfl
   clear hf hlk SK2 SKK;go_wp2_with fail;refine c1.mono ?_;rintro z w3 ⟨rfl,W3,K3⟩;have W4:Wk w3 wb bv (eg (d.snoc ⟨kk,kn,km,ka,kks⟩) none b):=by rw[jY];exact W3
   have K4:=K2.trans K3;clear c1 W3 K3 W2 K2 p0 p1 p2 p3 p4 pf x0 x1 x2 x3 x4 Z2 E2;go_wp2;go_roundw
   case rel=>exact⟨_,kr,hf2,by rw[<-hl2],W4,K4⟩
   case measure=>simp[intOf];omega
theorem cV {w w':World}{wb:Nat}{bv:Value}{st:Er}{g:Int}{r:Sum (Nat × Int) Int}(hc:r=dy st g)(W:Wk w' wb bv st)(K:au wb w w'):bX w wb bv r (.returned (.int .i64 g)) w':=by
 subst hc;cases st with
 | some x=>exact⟨⟨g,rfl,fun k h=>by cases h⟩,W,K⟩
 | none=>exact⟨⟨g,rfl,fun k h=>by injection h⟩,W,K⟩
theorem BQ {w w':World}{wb:Nat}{bv:Value}{x:Nat × Int}{g:Int}{r:Sum (Nat × Int) Int}(hc:r=.inl x)(W:Wk w' wb bv (some x))(K:au wb w w'):bX w wb bv r (.returned (.int .i64 g)) w':=by
 subst hc;exact⟨⟨g,rfl,fun k h=>by cases h⟩,W,K⟩
theorem pQ:∀ {f:Fs},f.len=0->f=.nil
 | ⟨none⟩,_=>rfl
 | ⟨some ⟨k,n,nm,a,ks,r⟩⟩,h=>by simp[Fs.len] at h
theorem yY {n:Int}{nm:List UInt8}{a:Int}{b:List (List UInt8)}:bK ⟨4,n,nm,a,.nil⟩ b=if nm ∈ b then .inr 3 else .inl (130,a):=by
 unfold bK;by_cases h:nm ∈ b
 ·rw[if_neg (fun h2=>h2.2 h),if_pos h];rfl
 ·rw[if_pos ⟨rfl,h⟩,if_neg h]
theorem mR.kids {N:Nat}{k n:Int}{nm:List UInt8}{a:Int}{f:Fs}{nb:Nat}(h:mR (N+1) ⟨k,n,nm,a,f⟩ nb)(hk:k≠21):Kds N f nb :=
 Kds.of (by have:=h.sz;simp only at this;omega) h.ok.2 (by have:=h.sk;simp only at this;rw[show (k==21)=false by simpa using hk] at this;exact this) h.sh (by have:=h.bl;simp only at this;omega)
theorem Dk {w w':World}{wb:Nat}{bv:Value}{b:List (List UInt8)}{n:Int}{nm:List UInt8}{a:Int}{r:Int}{x:Sum (Nat × Int) Int}(hc:x=bK ⟨4,n,nm,a,.nil⟩ b)(h3:nm ∈ b->r=3)(W:Wk w' wb bv (if nm ∈ b then none else some (130,a)))(K:au wb w w'):bX w wb bv x (.returned (.int .i64 r)) w':=by
 subst hc;rw[yY];by_cases h:nm ∈ b
 ·rw[if_pos h] at W ⊢;obtain rfl:=h3 h;exact⟨⟨3,rfl,fun k h=>by injection h⟩,W,K⟩
 ·rw[if_neg h] at W ⊢;exact⟨⟨r,rfl,fun k h=>by cases h⟩,W,K⟩
theorem uB {N:Nat}(IH:jU N):jU (N+1):=by
 intro e ao cap wb bv b w hr h hn S;obtain⟨k0,n,nm,a,f⟩:=e;have hok:=hr.ok.1;have ho:=yu hok;have hkb:=hok.2.2.1;have hst:=hr.st;simp only at ho hkb hst;have hkk:k0=1\/k0=2\/k0=3\/k0=4\/k0=6\/k0=7\/k0=8\/k0=9\/k0=10\/k0=11\/k0=12\/k0=13\/k0=14\/k0=15\/k0=16\/k0=17\/k0=18\/k0=19\/k0=20\/k0=21:=by
  have h1:=xR ho;have h2:k0≠22/\k0≠23/\k0≠24/\k0≠25:=by
   unfold bm at hst;simp at hst;omega
  omega
 obtain⟨W,hW⟩:∃W,W=bK ⟨k0,n,nm,a,f⟩ b:=⟨_,rfl⟩
 rw[<-hW];have HW:Hid (W=bK ⟨k0,n,nm,a,f⟩ b):=hW;clear hW hok hst;have B0:Below w.heap.size w (w.alloc (.cells #[.int .i64 k0,.int .i64 n,stv nm,.slice ao f.len cap,.int .i64 a] 25)):=(Below.refl _ w).alloc (Nat.le_refl _) _;have E0:(w.alloc (.cells #[.int .i64 k0,.int .i64 n,stv nm,.slice ao f.len cap,.int .i64 a] 25)).heap[w.heap.size]?=some (.cells #[.int .i64 k0,.int .i64 n,stv nm,.slice ao f.len cap,.int .i64 a] 25):=heap_alloc_new w _;have W0:=h.below B0;have S0:=Sl.belowF S B0;have hwb:=lt_of_block h.blk;have N0:=hn.below B0;clear h hn S;rw[am];go_enter Tryz.func100,Tryz.ntmps100;go_upto_region 1 with fail;generalize w.alloc (.cells #[.int .i64 k0,.int .i64 n,stv nm,.slice ao f.len cap,.int .i64 a] 25)=w0 at *;obtain⟨bx,hbx⟩:∃bx,bx=w.heap.size:=⟨_,rfl⟩
 have hwbx:wb≠bx:=by omega
 rw[<-hbx] at E0 B0 ⊢;have HB:Hid (bx=w.heap.size):=hbx;clear hbx;have KW0:au wb w w0:=au.ofBelow (by rw[<-HB.out];exact B0);simp only at S0;rcases hkk with rfl|rfl|rfl|rfl|rfl|rfl|rfl|rfl|rfl|rfl|rfl|rfl|rfl|rfl|rfl|rfl|rfl|rfl|rfl|rfl
 ·have hl:f.len=0:=by simp[aR] at hkb;omega
  obtain rfl:=pQ hl;have HZ:Hid (bX w wb bv W (.returned (.int .i64 1)) w0):=cV (st:=none) (HW.out.trans rfl) W0 KW0;obtain⟨p0,p1,p2,p3,p4,pf⟩:=ai E0;clear HW hr ho hkb S0 W0 N0 E0 B0 KW0;go_wp2;exact bodyPost_ret (v:=.int .i64 1) (by simp[results,Tryz.results100,go_sem]) rfl HZ.out
 ·have hl:f.len=0:=by simp[aR] at hkb;omega
  obtain rfl:=pQ hl;have HZ:Hid (bX w wb bv W (.returned (.int .i64 2)) w0):=cV (st:=none) (HW.out.trans rfl) W0 KW0;obtain⟨p0,p1,p2,p3,p4,pf⟩:=ai E0;clear HW hr ho hkb S0 W0 N0 E0 B0 KW0;go_wp2;exact bodyPost_ret (v:=.int .i64 2) (by simp[results,Tryz.results100,go_sem]) rfl HZ.out
 ·have hl:f.len=0:=by simp[aR] at hkb;omega
  obtain rfl:=pQ hl;have HZ:Hid (bX w wb bv W (.returned (.int .i64 3)) w0):=cV (st:=none) (HW.out.trans rfl) W0 KW0;obtain⟨p0,p1,p2,p3,p4,pf⟩:=ai E0;clear HW hr ho hkb S0 W0 N0 E0 B0 KW0;go_wp2;exact bodyPost_ret (v:=.int .i64 3) (by simp[results,Tryz.results100,go_sem]) rfl HZ.out
 ·have hl:f.len=0:=by simp[aR] at hkb;omega
  obtain rfl:=pQ hl;have c1:=fun k=>CI ⟨k,n,nm,a,.nil⟩ ao cap w0 wb bv b W0 N0 (by have:=hr.bl;simp only at this;omega);simp only[am] at c1;obtain⟨p0,p1,p2,p3,p4,pf⟩:=ai E0;clear hr ho hkb;go_wp2_with fail;refine(c1 _).mono ?_;rintro z w1 ⟨⟨r,rfl,h3⟩,W1,K1⟩;simp only at h3 W1;have HZ:Hid (bX w wb bv W (.returned (.int .i64 r)) w1):=Dk HW.out h3 W1 (KW0.trans K1);clear c1 W1 K1 h3 p0 p1 p2 p3 p4 pf S0 W0 N0 E0 B0 KW0 HW;go_wp2;exact bodyPost_ret (v:=.int .i64 r) (by simp[results,Tryz.results100,go_sem]) rfl HZ.out
 ·have hl:f.len=1:=by simp[aR] at hkb;omega
  obtain⟨x,rfl⟩:=sr hl;have hx:=hr.kids (by decide) .nil .nil x rfl;have HC:Hid (W=dy (bf none 1 x b) 1):=HW.out.trans (sP 1 1 (by decide) (by decide) rfl (by decide) rfl);obtain⟨p0,p1,p2,p3,p4,pf⟩:=ai E0;obtain⟨kb,off,ak,ck,hao,x0,x1,x2,x3,x4,SK⟩:=Sl.kidP (x:=.nil) (r:=.nil) (y:=x) S0 0 rfl;subst hao;simp only[Nat.zero_mul,Nat.add_zero] at x0 x1 x2 x3 x4;have hlen:(Fs.ex x .nil).len=1:=rfl;have c1:=eR IH x ak ck wb bv b 1 none w0 hx (fun _=>by decide) W0 (fun _=>N0) SK;rw[am] at c1;clear HW hr ho hkb;simp only[hlen] at p3 ⊢;go_wp2_with fail;refine c1.mono ?_;rintro z w1 ⟨rfl,W1,K1⟩;have HZ:Hid (bX w wb bv W (.returned (.int .i64 1)) w1):=cV HC.out W1 (KW0.trans K1);clear c1 W1 K1 HC p0 p1 p2 p3 p4 pf x0 x1 x2 x3 x4 SK S0 W0 N0 E0 B0 KW0;go_wp2;exact bodyPost_ret (v:=.int .i64 1) (by simp[results,Tryz.results100,go_sem]) rfl HZ.out
 ·have hl:f.len=1:=by simp[aR] at hkb;omega
  obtain⟨x,rfl⟩:=sr hl;have hx:=hr.kids (by decide) .nil .nil x rfl;have HC:Hid (W=dy (bf none 2 x b) 2):=HW.out.trans (sP 2 2 (by decide) (by decide) rfl (by decide) rfl);obtain⟨p0,p1,p2,p3,p4,pf⟩:=ai E0;obtain⟨kb,off,ak,ck,hao,x0,x1,x2,x3,x4,SK⟩:=Sl.kidP (x:=.nil) (r:=.nil) (y:=x) S0 0 rfl;subst hao;simp only[Nat.zero_mul,Nat.add_zero] at x0 x1 x2 x3 x4;have hlen:(Fs.ex x .nil).len=1:=rfl;have c1:=eR IH x ak ck wb bv b 2 none w0 hx (fun _=>by decide) W0 (fun _=>N0) SK;rw[am] at c1;clear HW hr ho hkb;simp only[hlen] at p3 ⊢;go_wp2_with fail;refine c1.mono ?_;rintro z w1 ⟨rfl,W1,K1⟩;have HZ:Hid (bX w wb bv W (.returned (.int .i64 2)) w1):=cV HC.out W1 (KW0.trans K1);clear c1 W1 K1 HC p0 p1 p2 p3 p4 pf x0 x1 x2 x3 x4 SK S0 W0 N0 E0 B0 KW0;go_wp2;exact bodyPost_ret (v:=.int .i64 2) (by simp[results,Tryz.results100,go_sem]) rfl HZ.out
 ·have hl:f.len=2:=by simp[aR,dS,eE] at hkb;omega
  obtain⟨x,y,rfl⟩:=fQ hl;have hx:=hr.kids (by decide) .nil (Fs.ex y .nil) x rfl;have hy:=hr.kids (by decide) (Fs.ex x .nil) .nil y rfl;have HC:Hid (W=dy (bf (bf none 1 x b) 1 y b) 1):=HW.out.trans (eJ 1 1 (by decide) (by decide) rfl rfl (by decide) rfl);obtain⟨p0,p1,p2,p3,p4,pf⟩:=ai E0;have c1:=fun k=>dU IH ⟨k,n,nm,a,Fs.ex x (Fs.ex y .nil)⟩ x y ao cap wb bv b 1 1 w0 rfl hx hy (by decide) W0 N0 S0;simp only[am] at c1;clear HW hr ho hkb;go_wp2_with fail;refine(c1 _).mono ?_;rintro z w1 ⟨rfl,W1,K1⟩;have HZ:Hid (bX w wb bv W (.returned (.int .i64 1)) w1):=cV HC.out W1 (KW0.trans K1);clear c1 W1 K1 HC p0 p1 p2 p3 p4 pf S0 W0 N0 E0 B0 KW0;go_wp2;exact bodyPost_ret (v:=.int .i64 1) (by simp[results,Tryz.results100,go_sem]) rfl HZ.out
 ·have hl:f.len=2:=by simp[aR,dS,eE] at hkb;omega
  obtain⟨x,y,rfl⟩:=fQ hl;have hx:=hr.kids (by decide) .nil (Fs.ex y .nil) x rfl;have hy:=hr.kids (by decide) (Fs.ex x .nil) .nil y rfl;have HC:Hid (W=dy (bf (bf none 1 x b) 1 y b) 1):=HW.out.trans (eJ 1 1 (by decide) (by decide) rfl rfl (by decide) rfl);obtain⟨p0,p1,p2,p3,p4,pf⟩:=ai E0;have c1:=fun k=>dU IH ⟨k,n,nm,a,Fs.ex x (Fs.ex y .nil)⟩ x y ao cap wb bv b 1 1 w0 rfl hx hy (by decide) W0 N0 S0;simp only[am] at c1;clear HW hr ho hkb;go_wp2_with fail;refine(c1 _).mono ?_;rintro z w1 ⟨rfl,W1,K1⟩;have HZ:Hid (bX w wb bv W (.returned (.int .i64 1)) w1):=cV HC.out W1 (KW0.trans K1);clear c1 W1 K1 HC p0 p1 p2 p3 p4 pf S0 W0 N0 E0 B0 KW0;go_wp2;exact bodyPost_ret (v:=.int .i64 1) (by simp[results,Tryz.results100,go_sem]) rfl HZ.out
 ·have hl:f.len=2:=by simp[aR,dS,eE] at hkb;omega
  obtain⟨x,y,rfl⟩:=fQ hl;have hx:=hr.kids (by decide) .nil (Fs.ex y .nil) x rfl;have hy:=hr.kids (by decide) (Fs.ex x .nil) .nil y rfl;have HC:Hid (W=dy (bf (bf none 1 x b) 1 y b) 1):=HW.out.trans (eJ 1 1 (by decide) (by decide) rfl rfl (by decide) rfl);obtain⟨p0,p1,p2,p3,p4,pf⟩:=ai E0;have c1:=fun k=>dU IH ⟨k,n,nm,a,Fs.ex x (Fs.ex y .nil)⟩ x y ao cap wb bv b 1 1 w0 rfl hx hy (by decide) W0 N0 S0;simp only[am] at c1;clear HW hr ho hkb;go_wp2_with fail;refine(c1 _).mono ?_;rintro z w1 ⟨rfl,W1,K1⟩;have HZ:Hid (bX w wb bv W (.returned (.int .i64 1)) w1):=cV HC.out W1 (KW0.trans K1);clear c1 W1 K1 HC p0 p1 p2 p3 p4 pf S0 W0 N0 E0 B0 KW0;go_wp2;exact bodyPost_ret (v:=.int .i64 1) (by simp[results,Tryz.results100,go_sem]) rfl HZ.out
 ·have hl:f.len=2:=by simp[aR,dS,eE] at hkb;omega
  obtain⟨x,y,rfl⟩:=fQ hl;have hx:=hr.kids (by decide) .nil (Fs.ex y .nil) x rfl;have hy:=hr.kids (by decide) (Fs.ex x .nil) .nil y rfl;have HC:Hid (W=dy (bf (bf none 1 x b) 1 y b) 1):=HW.out.trans (eJ 1 1 (by decide) (by decide) rfl rfl (by decide) rfl);obtain⟨p0,p1,p2,p3,p4,pf⟩:=ai E0;have c1:=fun k=>dU IH ⟨k,n,nm,a,Fs.ex x (Fs.ex y .nil)⟩ x y ao cap wb bv b 1 1 w0 rfl hx hy (by decide) W0 N0 S0;simp only[am] at c1;clear HW hr ho hkb;go_wp2_with fail;refine(c1 _).mono ?_;rintro z w1 ⟨rfl,W1,K1⟩;have HZ:Hid (bX w wb bv W (.returned (.int .i64 1)) w1):=cV HC.out W1 (KW0.trans K1);clear c1 W1 K1 HC p0 p1 p2 p3 p4 pf S0 W0 N0 E0 B0 KW0;go_wp2;exact bodyPost_ret (v:=.int .i64 1) (by simp[results,Tryz.results100,go_sem]) rfl HZ.out
 ·have hl:f.len=2:=by simp[aR,dS,eE] at hkb;omega
  obtain⟨x,y,rfl⟩:=fQ hl;have hx:=hr.kids (by decide) .nil (Fs.ex y .nil) x rfl;have hy:=hr.kids (by decide) (Fs.ex x .nil) .nil y rfl;have HC:Hid (W=dy (bf (bf none 1 x b) 1 y b) 1):=HW.out.trans (eJ 1 1 (by decide) (by decide) rfl rfl (by decide) rfl);obtain⟨p0,p1,p2,p3,p4,pf⟩:=ai E0;have c1:=fun k=>dU IH ⟨k,n,nm,a,Fs.ex x (Fs.ex y .nil)⟩ x y ao cap wb bv b 1 1 w0 rfl hx hy (by decide) W0 N0 S0;simp only[am] at c1;clear HW hr ho hkb;go_wp2_with fail;refine(c1 _).mono ?_;rintro z w1 ⟨rfl,W1,K1⟩;have HZ:Hid (bX w wb bv W (.returned (.int .i64 1)) w1):=cV HC.out W1 (KW0.trans K1);clear c1 W1 K1 HC p0 p1 p2 p3 p4 pf S0 W0 N0 E0 B0 KW0;go_wp2;exact bodyPost_ret (v:=.int .i64 1) (by simp[results,Tryz.results100,go_sem]) rfl HZ.out
 ·have hl:f.len=2:=by simp[aR,dS,eE] at hkb;omega
  obtain⟨x,y,rfl⟩:=fQ hl;have hx:=hr.kids (by decide) .nil (Fs.ex y .nil) x rfl;have hy:=hr.kids (by decide) (Fs.ex x .nil) .nil y rfl;have HC:Hid (W=(match bK x b with | .inl e=>.inl e | .inr k0=>dy (bf none k0 y b) 2)):=HW.out.trans (jS (by decide));have hpos:=je N x b;have hxs:=hx.sz;have hxo:=hx.ok;obtain⟨p0,p1,p2,p3,p4,pf⟩:=ai E0;obtain⟨kb,off,ak,ck,hao,x0,x1,x2,x3,x4,SK⟩:=Sl.kidP (x:=.nil) (r:=Fs.ex y .nil) (y:=x) S0 0 rfl;subst hao;simp only[Nat.zero_mul,Nat.add_zero] at x0 x1 x2 x3 x4;have hlen:(Fs.ex x (Fs.ex y .nil)).len=2:=rfl;have c1:=IH x ak ck wb bv b w0 hx W0 N0 SK;rw[am] at c1;clear HW hr ho hkb;simp only[hlen] at p3 E0 ⊢;go_wp2_with fail;refine c1.mono ?_;rintro z w1 ⟨⟨k',rfl,hk'⟩,W1,K1⟩;have E1:=(K1.block _ (lt_of_block E0) (Ne.symm hwbx)).trans E0;have S1:=Sl.keepF S0 K1;have N1:=N0.keep K1;have KW1:=KW0.trans K1;clear c1 p0 p1 p2 p3 p4 pf x0 x1 x2 x3 x4 SK S0 W0 N0 E0 B0 KW0 K1;obtain⟨p0,p1,p2,p3,p4,pf⟩:=ai E1;obtain⟨kb2,off2,ak,ck,hao,x0,x1,x2,x3,x4,SK⟩:=Sl.kidP (x:=Fs.ex x .nil) (r:=.nil) (y:=y) S1 1 rfl;injection hao with hao
  injection hao with h1 h2
  subst h1;subst h2;simp only[Nat.one_mul] at x0 x1 x2 x3 x4;have hm:stS (bK x b)=none->k'≠0:=by
   intro hs;cases hc:bK x b with
   | inl z=>rw[hc] at hs;cases hs
   | inr k1 =>
    rw[hk' k1 hc];exact hpos k1 hxs hxo hc
  have c2:=eR IH y ak ck wb bv b k' _ w1 hy hm W1 (fun _=>N1) SK;rw[am] at c2;have HC2:Hid (W=dy (bf (stS (bK x b)) k' y b) 2):=by
   show W=_;rw[HC.out];cases hc:bK x b with
   | inl z=>rfl
   | inr k1=>rw[hk' k1 hc];rfl
  clear HC hm hpos hk' hxs hxo;go_wp2_with fail;refine c2.mono ?_;rintro z w2 ⟨rfl,W2,K2⟩;have HZ:Hid (bX w wb bv W (.returned (.int .i64 2)) w2):=cV HC2.out W2 (KW1.trans K2);clear c2 W2 K2 HC2 p0 p1 p2 p3 p4 pf x0 x1 x2 x3 x4 SK S1 W1 N1 E1 KW1;go_wp2;exact bodyPost_ret (v:=.int .i64 2) (by simp[results,Tryz.results100,go_sem]) rfl HZ.out
 ·have hl:f.len=2:=by simp[aR,dS,eE] at hkb;omega
  obtain⟨x,y,rfl⟩:=fQ hl;have hx:=hr.kids (by decide) .nil (Fs.ex y .nil) x rfl;have hy:=hr.kids (by decide) (Fs.ex x .nil) .nil y rfl;have HC:Hid (W=(match bK x b with | .inl e=>.inl e | .inr k0=>dy (bf none k0 y b) 2)):=HW.out.trans (jS (by decide));have hpos:=je N x b;have hxs:=hx.sz;have hxo:=hx.ok;obtain⟨p0,p1,p2,p3,p4,pf⟩:=ai E0;obtain⟨kb,off,ak,ck,hao,x0,x1,x2,x3,x4,SK⟩:=Sl.kidP (x:=.nil) (r:=Fs.ex y .nil) (y:=x) S0 0 rfl;subst hao;simp only[Nat.zero_mul,Nat.add_zero] at x0 x1 x2 x3 x4;have hlen:(Fs.ex x (Fs.ex y .nil)).len=2:=rfl;have c1:=IH x ak ck wb bv b w0 hx W0 N0 SK;rw[am] at c1;clear HW hr ho hkb;simp only[hlen] at p3 E0 ⊢;go_wp2_with fail;refine c1.mono ?_;rintro z w1 ⟨⟨k',rfl,hk'⟩,W1,K1⟩;have E1:=(K1.block _ (lt_of_block E0) (Ne.symm hwbx)).trans E0;have S1:=Sl.keepF S0 K1;have N1:=N0.keep K1;have KW1:=KW0.trans K1;clear c1 p0 p1 p2 p3 p4 pf x0 x1 x2 x3 x4 SK S0 W0 N0 E0 B0 KW0 K1;obtain⟨p0,p1,p2,p3,p4,pf⟩:=ai E1;obtain⟨kb2,off2,ak,ck,hao,x0,x1,x2,x3,x4,SK⟩:=Sl.kidP (x:=Fs.ex x .nil) (r:=.nil) (y:=y) S1 1 rfl;injection hao with hao
  injection hao with h1 h2
  subst h1;subst h2;simp only[Nat.one_mul] at x0 x1 x2 x3 x4;have hm:stS (bK x b)=none->k'≠0:=by
   intro hs;cases hc:bK x b with
   | inl z=>rw[hc] at hs;cases hs
   | inr k1 =>
    rw[hk' k1 hc];exact hpos k1 hxs hxo hc
  have c2:=eR IH y ak ck wb bv b k' _ w1 hy hm W1 (fun _=>N1) SK;rw[am] at c2;have HC2:Hid (W=dy (bf (stS (bK x b)) k' y b) 2):=by
   show W=_;rw[HC.out];cases hc:bK x b with
   | inl z=>rfl
   | inr k1=>rw[hk' k1 hc];rfl
  clear HC hm hpos hk' hxs hxo;go_wp2_with fail;refine c2.mono ?_;rintro z w2 ⟨rfl,W2,K2⟩;have HZ:Hid (bX w wb bv W (.returned (.int .i64 2)) w2):=cV HC2.out W2 (KW1.trans K2);clear c2 W2 K2 HC2 p0 p1 p2 p3 p4 pf x0 x1 x2 x3 x4 SK S1 W1 N1 E1 KW1;go_wp2;exact bodyPost_ret (v:=.int .i64 2) (by simp[results,Tryz.results100,go_sem]) rfl HZ.out
 ·have hl:f.len=2:=by simp[aR,dS,eE] at hkb;omega
  obtain⟨x,y,rfl⟩:=fQ hl;have hx:=hr.kids (by decide) .nil (Fs.ex y .nil) x rfl;have hy:=hr.kids (by decide) (Fs.ex x .nil) .nil y rfl;have HC:Hid (W=dy (bf (bf none 1 x b) 1 y b) 2):=HW.out.trans (eJ 1 2 (by decide) (by decide) rfl rfl (by decide) rfl);obtain⟨p0,p1,p2,p3,p4,pf⟩:=ai E0;have c1:=fun k=>dU IH ⟨k,n,nm,a,Fs.ex x (Fs.ex y .nil)⟩ x y ao cap wb bv b 1 2 w0 rfl hx hy (by decide) W0 N0 S0;simp only[am] at c1;clear HW hr ho hkb;go_wp2_with fail;refine(c1 _).mono ?_;rintro z w1 ⟨rfl,W1,K1⟩;have HZ:Hid (bX w wb bv W (.returned (.int .i64 2)) w1):=cV HC.out W1 (KW0.trans K1);clear c1 W1 K1 HC p0 p1 p2 p3 p4 pf S0 W0 N0 E0 B0 KW0;go_wp2;exact bodyPost_ret (v:=.int .i64 2) (by simp[results,Tryz.results100,go_sem]) rfl HZ.out
 ·have hl:f.len=2:=by simp[aR,dS,eE] at hkb;omega
  obtain⟨x,y,rfl⟩:=fQ hl;have hx:=hr.kids (by decide) .nil (Fs.ex y .nil) x rfl;have hy:=hr.kids (by decide) (Fs.ex x .nil) .nil y rfl;have HC:Hid (W=dy (bf (bf none 1 x b) 1 y b) 2):=HW.out.trans (eJ 1 2 (by decide) (by decide) rfl rfl (by decide) rfl);obtain⟨p0,p1,p2,p3,p4,pf⟩:=ai E0;have c1:=fun k=>dU IH ⟨k,n,nm,a,Fs.ex x (Fs.ex y .nil)⟩ x y ao cap wb bv b 1 2 w0 rfl hx hy (by decide) W0 N0 S0;simp only[am] at c1;clear HW hr ho hkb;go_wp2_with fail;refine(c1 _).mono ?_;rintro z w1 ⟨rfl,W1,K1⟩;have HZ:Hid (bX w wb bv W (.returned (.int .i64 2)) w1):=cV HC.out W1 (KW0.trans K1);clear c1 W1 K1 HC p0 p1 p2 p3 p4 pf S0 W0 N0 E0 B0 KW0;go_wp2;exact bodyPost_ret (v:=.int .i64 2) (by simp[results,Tryz.results100,go_sem]) rfl HZ.out
 ·have hl:f.len=2:=by simp[aR,dS,eE] at hkb;omega
  obtain⟨x,y,rfl⟩:=fQ hl;have hx:=hr.kids (by decide) .nil (Fs.ex y .nil) x rfl;have hy:=hr.kids (by decide) (Fs.ex x .nil) .nil y rfl;have HC:Hid (W=dy (bf (bf none 2 x b) 2 y b) 2):=HW.out.trans (eJ 2 2 (by decide) (by decide) rfl rfl (by decide) rfl);obtain⟨p0,p1,p2,p3,p4,pf⟩:=ai E0;have c1:=fun k=>dU IH ⟨k,n,nm,a,Fs.ex x (Fs.ex y .nil)⟩ x y ao cap wb bv b 2 2 w0 rfl hx hy (by decide) W0 N0 S0;simp only[am] at c1;clear HW hr ho hkb;go_wp2_with fail;refine(c1 _).mono ?_;rintro z w1 ⟨rfl,W1,K1⟩;have HZ:Hid (bX w wb bv W (.returned (.int .i64 2)) w1):=cV HC.out W1 (KW0.trans K1);clear c1 W1 K1 HC p0 p1 p2 p3 p4 pf S0 W0 N0 E0 B0 KW0;go_wp2;exact bodyPost_ret (v:=.int .i64 2) (by simp[results,Tryz.results100,go_sem]) rfl HZ.out
 ·have hl:f.len=2:=by simp[aR,dS,eE] at hkb;omega
  obtain⟨x,y,rfl⟩:=fQ hl;have hx:=hr.kids (by decide) .nil (Fs.ex y .nil) x rfl;have hy:=hr.kids (by decide) (Fs.ex x .nil) .nil y rfl;have HC:Hid (W=dy (bf (bf none 2 x b) 2 y b) 2):=HW.out.trans (eJ 2 2 (by decide) (by decide) rfl rfl (by decide) rfl);obtain⟨p0,p1,p2,p3,p4,pf⟩:=ai E0;have c1:=fun k=>dU IH ⟨k,n,nm,a,Fs.ex x (Fs.ex y .nil)⟩ x y ao cap wb bv b 2 2 w0 rfl hx hy (by decide) W0 N0 S0;simp only[am] at c1;clear HW hr ho hkb;go_wp2_with fail;refine(c1 _).mono ?_;rintro z w1 ⟨rfl,W1,K1⟩;have HZ:Hid (bX w wb bv W (.returned (.int .i64 2)) w1):=cV HC.out W1 (KW0.trans K1);clear c1 W1 K1 HC p0 p1 p2 p3 p4 pf S0 W0 N0 E0 B0 KW0;go_wp2;exact bodyPost_ret (v:=.int .i64 2) (by simp[results,Tryz.results100,go_sem]) rfl HZ.out
 ·have hl:f.len=3:=by simp[aR] at hkb;omega
  obtain⟨x,y,u,rfl⟩:=zL hl;have hx:=hr.kids (by decide) .nil (Fs.ex y (Fs.ex u .nil)) x rfl;have hy:=hr.kids (by decide) (Fs.ex x .nil) (Fs.ex u .nil) y rfl;have hu:=hr.kids (by decide) (Fs.ex x (Fs.ex y .nil)) .nil u rfl;have HC:Hid (W=(match bf none 2 x b with|some e=>.inl e|none=>match bK y b with | .inl e=>.inl e | .inr k1=>dy (bf none k1 u b) k1)):=HW.out.trans lR;have hpos:=je N y b;have hys:=hy.sz;have hyo:=hy.ok;obtain⟨p0,p1,p2,p3,p4,pf⟩:=ai E0;obtain⟨kb,off,ak,ck,hao,x0,x1,x2,x3,x4,SK⟩:=Sl.kidP (x:=.nil) (r:=Fs.ex y (Fs.ex u .nil)) (y:=x) S0 0 rfl;subst hao;simp only[Nat.zero_mul,Nat.add_zero] at x0 x1 x2 x3 x4;have hlen:(Fs.ex x (Fs.ex y (Fs.ex u .nil))).len=3:=rfl;have c1:=eR IH x ak ck wb bv b 2 none w0 hx (fun _=>by decide) W0 (fun _=>N0) SK;rw[am] at c1;clear HW hr ho hkb;simp only[hlen] at p3 E0 ⊢;go_wp2_with fail;refine c1.mono ?_;rintro z w1 ⟨rfl,W1,K1⟩;have E1:=(K1.block _ (lt_of_block E0) (Ne.symm hwbx)).trans E0;have S1:=Sl.keepF S0 K1;have N1:=N0.keep K1;have KW1:=KW0.trans K1;clear c1 p0 p1 p2 p3 p4 pf x0 x1 x2 x3 x4 SK S0 W0 N0 E0 B0 KW0 K1;obtain⟨p0,p1,p2,p3,p4,pf⟩:=ai E1;obtain⟨q0,q1,q2,qf⟩:=it W1.blk;cases hmx:bf none 2 x b with
  | some z =>
   rw[hmx] at W1 q1 q2;have hz:=W1.ok z rfl;obtain⟨er,pa⟩:=z;simp only[erO,plO] at q1 q2 hz;have hne:((er:Int) != 0)=true:=by simp;omega
   have HZ:Hid (bX w wb bv W (.returned (.int .i64 0)) w1):=BQ (by rw[HC.out,hmx]) W1 KW1;clear HC hpos W1 KW1 N1 S1 hmx;go_wp2;exact bodyPost_ret (v:=.int .i64 0) (by simp[results,Tryz.results100,go_sem]) rfl HZ.out
  | none =>
   rw[hmx] at W1 q1 q2;simp only[erO,plO] at q1 q2;have HC1:Hid (W=(match bK y b with | .inl e=>.inl e | .inr k1=>dy (bf none k1 u b) k1)):=by show W=_;rw[HC.out,hmx]
   obtain⟨kb2,off2,ak,ck,hao,x0,x1,x2,x3,x4,SK⟩:=Sl.kidP (x:=Fs.ex x .nil) (r:=Fs.ex u .nil) (y:=y) S1 1 rfl;injection hao with hao
   injection hao with h1 h2
   subst h1;subst h2;simp only[Nat.one_mul] at x0 x1 x2 x3 x4;have c2:=IH y ak ck wb bv b w1 hy W1 N1 SK;rw[am] at c2;clear HC hmx;go_wp2_with fail;refine c2.mono ?_;rintro z w2 ⟨⟨k',rfl,hk'⟩,W2,K2⟩;have E2:=(K2.block _ (lt_of_block E1) (Ne.symm hwbx)).trans E1;have S2:=Sl.keepF S1 K2;have N2:=N1.keep K2;have KW2:=KW1.trans K2;clear c2 p0 p1 p2 p3 p4 pf q0 q1 q2 qf x0 x1 x2 x3 x4 SK S1 W1 N1 E1 KW1 K2;obtain⟨p0,p1,p2,p3,p4,pf⟩:=ai E2;obtain⟨kb2,off2,ak,ck,hao,x0,x1,x2,x3,x4,SK⟩:=Sl.kidP (x:=Fs.ex x (Fs.ex y .nil)) (r:=.nil) (y:=u) S2 2 rfl;injection hao with hao
   injection hao with h1 h2
   subst h1;subst h2;simp only[Nat.reduceMul] at x0 x1 x2 x3 x4;have hm:stS (bK y b)=none->k'≠0:=by
    intro hs;cases hc:bK y b with
    | inl z=>rw[hc] at hs;cases hs
    | inr k1 =>
     rw[hk' k1 hc];exact hpos k1 hys hyo hc
   have c3:=eR IH u ak ck wb bv b k' _ w2 hu hm W2 (fun _=>N2) SK;rw[am] at c3;have HC2:Hid (W=dy (bf (stS (bK y b)) k' u b) k'):=by
    show W=_;rw[HC1.out];cases hc:bK y b with
    | inl z=>rfl
    | inr k1=>rw[hk' k1 hc];rfl
   clear HC1 hm hpos hk' hys hyo;go_wp2_with fail;refine c3.mono ?_;rintro z w3 ⟨rfl,W3,K3⟩;have HZ:Hid (bX w wb bv W (.returned (.int .i64 k')) w3):=cV HC2.out W3 (KW2.trans K3);clear c3 W3 K3 HC2 p0 p1 p2 p3 p4 pf x0 x1 x2 x3 x4 SK S2 W2 N2 E2 KW2;go_wp2;exact bodyPost_ret (v:=.int .i64 k') (by simp[results,Tryz.results100,go_sem]) rfl HZ.out
 ·have hs:=hr.kids (by decide);have hlen1:=hr.len;simp only at hlen1;have HC:Hid (W=dy (eg f none b) (fS n)):=by
   rcases ho with ho|⟨-,h1,h2⟩|⟨ho,-⟩|⟨ho,-⟩
   ·omega
   ·exact HW.out.trans (yO h1 h2)
   ·omega
   ·omega
  obtain⟨p0,p1,p2,p3,p4,pf⟩:=ai E0;clear HW hr ho hkb;go_upto_region 42 with fail;clear p0 p1 p2 p3 p4 pf;go_loopw [7] (fun v wr=>∃(d r:Fs),Hid (f=d.app r)/\v=.int .i64 (d.len:Nat)/\Wk wr wb bv (eg d none b)/\au wb w0 wr) (fun v _=>f.len-(intOf v).toNat)
  case atStart=>exact⟨.nil,f,rfl,by show _=Value.int .i64 ((0:Nat):Int);rfl,W0,au.refl _ _⟩
  case round =>
   obtain⟨d,r,hf,rfl,W2,K2⟩:=hrel;have hlk:f.len=d.len+r.len:=by rw[hf.out,Fs.len_app]
   have E2:=(K2.block _ (lt_of_block E0) (Ne.symm hwbx)).trans E0;obtain⟨p0,p1,p2,p3,p4,pf⟩:=ai E2;cases r using Fs.on with
   | nil =>
    have hl0:¬(d.len:Int)<(f.len:Int):=by simp only[Fs.len] at hlk;omega
    have hdn:f=d:=by rw[hf.out];clear hf hlk hl0 W2;exact jL d
    have c2:=oB n wr;obtain⟨gv,hgv⟩:∃gv,gv=fS n:=⟨_,rfl⟩
    rw[<-hgv] at c2;have HZ:Hid (bX w wb bv W (.returned (.int .i64 gv)) wr):=cV (by rw[HC.out,hdn,hgv]) W2 (KW0.trans K2);clear HC hgv hdn hf hlk W2 K2;go_wp2_with fail;refine c2.mono ?_;rintro z w3 ⟨rfl,rfl⟩;clear c2;go_wp2;exact bodyPost_ret (v:=.int .i64 gv) (by simp[results,Tryz.results100,go_sem]) rfl HZ.out
   | cons kk kn km ka kks kr =>
    have hl0:(d.len:Int)<(f.len:Int):=by simp only[Fs.len] at hlk;omega
    have hl1:d.len<f.len:=by simp only[Fs.len] at hlk;omega
    have SK2:Sl wr (Nf wb) (d.app (Fs.ex ⟨kk,kn,km,ka,kks⟩ kr)) ao:=by
     have:=Sl.keepF S0 K2
     rw[hf.out] at this;exact this
    obtain⟨gb,go,ak,ck,hao,x0,x1,x2,x3,x4,SKK⟩:=Sl.kidP SK2 d.len rfl;subst hao;have c1:=eR IH ⟨kk,kn,km,ka,kks⟩ ak ck wb bv b 3 _ wr (hs d kr _ hf.out) (fun _=>by decide) W2 (fun _=>N0.keep K2) SKK;rw[am] at c1;simp only at c1 x0 x1 x2 x3 x4;have hf2:Hid (f=(d.snoc ⟨kk,kn,km,ka,kks⟩).app kr):=by show f=_;rw[hf.out];unfold Fs.snoc;rw[Fs.app_assoc];rfl
    have hl2:(d.len:Int)+1=((d.snoc ⟨kk,kn,km,ka,kks⟩).len:Nat):=by rw[Fs.len_snoc];rfl
    clear hf hlk SK2 SKK;go_wp2_with fail;refine c1.mono ?_;rintro z w3 ⟨rfl,W3,K3⟩;have W4:Wk w3 wb bv (eg (d.snoc ⟨kk,kn,km,ka,kks⟩) none b):=by rw[jY];exact W3
    have K4:=K2.trans K3;clear c1 W3 K3 W2 K2 p0 p1 p2 p3 p4 pf x0 x1 x2 x3 x4 E2;go_wp2;go_roundw
    case rel=>exact⟨_,kr,hf2,by rw[<-hl2],W4,K4⟩
    case measure=>simp[intOf];omega
 ·have hl:f.len=2:=by simp[aR] at hkb;omega
  obtain⟨s,x,rfl⟩:=fQ hl;have hok:=hr.ok.2;have hsk:=hr.sk;have hsz:=hr.sz;have hsh:=hr.sh;have hbl:=hr.bl;simp only at hok hsk hsz hsh hbl;have hsk':(Fs.ex s (Fs.ex x .nil)).stk true:=hsk;have hoks:=lu hok;have hokx:=lu hoks.2;simp only[oe,Fs.size] at hsz hbl;have hx:mR N x (b.length+1):=⟨by omega,hokx.1,hsk'.2.2.1,hsk'.2.2.2.1,hsh.2.2.2.2.1,hsh.2.2.2.2.2.1,by omega⟩
  have hs21:s.k≠21:=by
   intro h
   have:=hsk'.1
   rw[h] at this;cases this
  have hs:Kds N s.kids b.length:=Kds.of (by omega) hoks.1.2 (by have:=hsk'.2.1;rw[show (s.k==21)=false by simpa using hs21] at this;exact this) hsh.2.2.1 (by omega);have hset:(s.k=22\/s.k=23)/\s.kids.len=0\/s.k=24/\s.kids.len=1\/s.k=25:=by
   have h1:=hsk'.1;have h2:=hoks.1.1.2.2.1;unfold bm at h1;simp at h1;rcases h1 with ((h1|h1)|h1)|h1<;>rw[h1] at h2<;>(simp[aR] at h2;omega)
  have hcs:bK s b=dy (eg s.kids none b) 4:=tX hset;have HC:Hid (W=dy (bf (eg s.kids none b) (cG n) x (b++[nm])) (cm n)):=by
   rcases ho with ho|⟨ho,-⟩|⟨-,h1,-⟩|⟨ho,-⟩
   ·omega
   ·omega
   ·exact HW.out.trans (vG h1 hcs)
   ·omega
  obtain⟨p0,p1,p2,p3,p4,pf⟩:=ai E0;have c1:=fun k=>As IH ⟨k,n,nm,a,Fs.ex s (Fs.ex x .nil)⟩ s x ao cap wb bv b w0 rfl hs hsh.2.1 hx W0 N0 S0;simp only[am] at c1;obtain⟨wo,hwo⟩:∃wo,wo=cm n:=⟨_,rfl⟩
  rw[<-hwo] at c1;clear HW hr ho hkb hok hsk hsz hsh hbl hsk' hoks hokx hx hs21 hs hset hcs;go_wp2_with fail;refine(c1 _).mono ?_;rintro z w1 ⟨rfl,W1,K1⟩;have HZ:Hid (bX w wb bv W (.returned (.int .i64 wo)) w1):=cV (by rw[HC.out,hwo]) W1 (KW0.trans K1);clear c1 W1 K1 HC p0 p1 p2 p3 p4 pf S0 W0 N0 E0 B0 KW0 hwo;go_wp2;exact bodyPost_ret (v:=.int .i64 wo) (by simp[results,Tryz.results100,go_sem]) rfl HZ.out
theorem ue:∀ N,jU N
 | 0=>fun e ao cap wb bv b w h=>absurd h.sz (Nat.not_lt_zero _)
 | N+1=>uB (ue N)
end Go.Proofs.YtbjdkekhnajafaaGreatDoor
