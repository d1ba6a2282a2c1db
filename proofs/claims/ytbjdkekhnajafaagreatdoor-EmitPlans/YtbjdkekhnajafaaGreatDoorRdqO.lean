import Derived.Test.YtbjdkekhnajafaaGreatDoorDocC
set_option maxRecDepth 100000
set_option maxHeartbeats 8000000
namespace Go.Proofs.YtbjdkekhnajafaaGreatDoor
open Go.ChangeShapes Go.WideShapes Go.ChangeAt Go.RowKit
set_option linter.unusedVariables false
set_option linter.unusedSimpArgs false
theorem cr.kid {e:Ex}{d r:Fs}{x:Ex}(h:cr e)(hk:e.kids=d.app (Fs.ex x r)):cr x:=by
 have:=Fs.app_short(x:=d)(y:=Fs.ex x r)(by rw[<-hk];exact h.sh)
 exact⟨this.1,this.2.1,this.2.2.1⟩
theorem WD.okc {w:World}{wb kb:Nat}{bv:Value}{nc:Nat}{st:Dg}(h:WD w wb kb bv nc st):∃a1 a2,w.heap[wb]?=some (.cells #[bv,a1,a2,.bool st.isSome] 104 (0,0)):=by
 cases st with
 | none=>obtain⟨-,p,kv,h⟩:=h;exact⟨_,_,h⟩
 | some s=>exact⟨_,_,h.1⟩
theorem fV {N:Nat}(IH:jh N)(e:Ex)(ao:Option Addr)(cap wb kb:Nat)(bv:Value)(cells:List Int)(ar wi:Nat)(m g:Int)(st:Dg)(w:World)(hN:e.kids.size<=N)(hf:cr e)(hwi:wi<=4)(har:ar<=wi)(hne:wb≠kb)(hm:m≠4)(h:WD w wb kb bv cells.length st)(hn:Inw w (Nf2 wb kb) bv cells)(S:SlN w (Nf2 wb kb) e.kids ao) :
  Calls Tryz.prog 105 #[.pointer(some⟨wb,0,none⟩),exN e ao cap,.int .i64(ar:Nat),.int .i64(wi:Nat),.int .i64 m,.int .i64 g] w fun z w'=>z=.returned(.int .i64 g)/\WD w' wb kb bv cells.length(cE cells e.kids st m ar wi)/\Kp wb kb w w':=by
 obtain⟨Z,hZ⟩:∃Z,Z=cE cells e.kids st m ar wi:=⟨_,rfl⟩
 rw[<-hZ];have HZ:Hid(Z=cE cells e.kids st m ar wi):=hZ;clear hZ;have hlen:=hf.len;have B0:Below w.heap.size w(w.alloc(.cells #[.int .i64 e.k,.int .i64 e.n,stv e.nm,.slice ao e.kids.len cap] 34)):=(Below.refl _ w).alloc(Nat.le_refl _) _;have E0:(w.alloc(.cells #[.int .i64 e.k,.int .i64 e.n,stv e.nm,.slice ao e.kids.len cap] 34)).heap[w.heap.size]?=some(.cells #[.int .i64 e.k,.int .i64 e.n,stv e.nm,.slice ao e.kids.len cap] 34):=heap_alloc_new w _;have W0:=h.below B0;have S0:=S.belowP B0;have N0:=hn.below B0;have hwb:=h.lt;have hkb:=h.ltk;clear h S hn;rw[ah];go_enter Tryz.func105,Tryz.ntmps105;go_upto_region 1 with fail;generalize w.alloc(.cells #[.int .i64 e.k,.int .i64 e.n,stv e.nm,.slice ao e.kids.len cap] 34)=w0 at *;have KK:Kp wb kb w w0:=Kp.ofBelow B0;obtain⟨bx,hbx⟩:∃bx,bx=w.heap.size:=⟨_,rfl⟩
 rw[<-hbx] at E0 ⊢;have hb1:bx≠wb:=by omega
 have hb2:bx≠kb:=by omega
 clear hbx hwb hkb;go_wp2;go_loopw [13](fun v wr=>∃(d r:Fs)(st':Dg),Hid(e.kids=d.app r)/\v=.int .i64(d.len:Nat)/\Hid(cE cells r st' m ar wi=Z)/\WD wr wb kb bv cells.length st'/\wr.heap[bx]?=some(.cells #[.int .i64 e.k,.int .i64 e.n,stv e.nm,.slice ao e.kids.len cap] 34)/\Inw wr(Nf2 wb kb) bv cells/\SlN wr(Nf2 wb kb) e.kids ao/\Kp wb kb w wr)(fun v _=>e.kids.len-(intOf v).toNat)
 case atStart=>exact⟨.nil,e.kids,st,rfl,by show _=Value.int .i64((0:Nat):Int);rfl,HZ.out.symm,W0,E0,N0,S0,KK⟩
 case round =>
  clear E0 B0 HZ W0 N0 S0 KK;obtain⟨d,r,st',hk,rfl,HA,W1,E1,N1,S1,K1⟩:=hrel;have hlk:e.kids.len=d.len+r.len:=by rw[hk.out,Fs.len_app]
  obtain⟨p0,p1,p2,p3,pf⟩:=aI E1;cases r using Fs.on with
  | nil =>
   have hlt:¬(d.len:Int)<(e.kids.len:Int):=by simp only[Fs.len] at hlk;omega
   have FIN:Hid(WD wr wb kb bv cells.length Z/\Kp wb kb w wr):=by rw[<-HA.out];exact⟨W1,K1⟩
   clear HA hlk W1 K1 N1 S1 E1;go_wp2;go_ret;exact⟨rfl,FIN.out.1,FIN.out.2⟩
  | cons kk kn km ka kks kr =>
   have hlt:(d.len:Int)<(e.kids.len:Int):=by simp only[Fs.len] at hlk;omega
   have hl3:d.len<e.kids.len:=by omega
   have hsz:e.kids.size=d.size+(kks.size+kr.size+1):=by rw[hk.out,Fs.size_app];rfl
   have hfk:cr⟨kk,kn,km,ka,kks⟩:=hf.kid(d:=d)(r:=kr) hk.out;obtain⟨b,off,ak,ck,hao,lb1,-,x0,x1,x2,x3,SK⟩:=SlN.kidQ(by rw[<-hk.out];exact S1);subst hao;have c1:=iQ IH⟨kk,kn,km,ka,kks⟩ ak ck wb kb bv cells ar wi m st' wr(fun _=>by show kks.size<N;omega) hfk hwi har hne(fun _=>hm) W1 N1 SK;rw[ah] at c1;simp only at c1;have HA2:Hid(cE cells kr(bH cells st' m⟨kk,kn,km,ka,kks⟩ ar wi) m ar wi=Z):=HA.out;have hk2:Hid(e.kids=(d.snoc⟨kk,kn,km,ka,kks⟩).app kr):=by show e.kids=_;rw[hk.out];unfold Fs.snoc;rw[Fs.app_assoc];rfl
   have hl2:(d.len:Int)+1=((d.snoc⟨kk,kn,km,ka,kks⟩).len:Nat):=by rw[Fs.len_snoc];rfl
   generalize bH cells st' m⟨kk,kn,km,ka,kks⟩ ar wi=st2 at *;clear HA hlk hsz hfk SK hk W1;go_wp2_with fail;refine c1.mono ?_;rintro x w2⟨rfl,W2,k2⟩;have E2:=(k2.block bx(lt_of_block E1) hb1 hb2).trans E1;have N2:=N1.kp k2;have S2:=S1.kp k2;have K2:=K1.trans k2;clear c1 x0 x1 x2 x3 p0 p1 p2 p3 pf k2 E1 K1 N1 S1;go_wp2;go_roundw
   case rel=>exact⟨_,kr,st2,hk2,by rw[<-hl2],HA2,W2,E2,N2,S2,K2⟩
   case measure=>simp[intOf];omega
theorem yK (ks:List Int)(i:Nat):wkP ks i≠4:=by
 unfold wkP;split
 ·split<;>omega
 ·omega
theorem vD {k n:Int}{kd:List Int}(h:(aZ k n kd).2=4):22<=k/\k<=25:=by
 apply Classical.byContradiction;intro hc;have h0:=yK kd 0;have h1:=yK kd 1;have hk:(1<=k/\k<=3)\/(5<=k/\k<=26):=mE(by rw[h];decide);have hc2:k=1\/k=2\/k=3\/k=5\/k=6\/k=7\/k=8\/k=9\/k=10\/k=11\/k=12\/k=13\/k=14\/k=15\/k=16\/k=17\/k=18\/k=19\/k=20\/k=21\/k=26:=by omega
 rcases hc2 with rfl|rfl|rfl|rfl|rfl|rfl|rfl|rfl|rfl|rfl|rfl|rfl|rfl|rfl|rfl|rfl|rfl|rfl|rfl|rfl|rfl<;>simp[aZ,h0,h1] at h
 all_goals(
  revert h
  split
  ·simp
  ·split
   ·simp
   ·first|(split<;>simp)|simp)
theorem xM {cells:List Int}{s:Rg}{m:Int}{e:Ex}{ar wi:Nat}(h:4096<s.1+1):bH cells (some s) m e ar wi=none:=by
 simp only[bH];rw[fL(fun hg=>hg(.inl h))]
theorem ph {cells:List Int}{s:Rg}{e:Ex}{ar wi:Nat}(h:e.k<22\/25<e.k):bH cells (some s) 4 e ar wi=none:=by
 simp only[bH];cases hr:rgE cells e ar wi s with
 | none=>rfl
 | some z =>
  obtain⟨s',k⟩:=z;simp only;split
  ·rename_i hk
   obtain⟨-,s1,kd,-,-,-,-,h5,-⟩:=dv hr
   have:=vD(h5.symm.trans hk)
   omega
  ·rfl
theorem xZ {cells:List Int}{s:Rg}{m:Int}{e:Ex}{ar wi:Nat}(h:aD e.k e.n e.nm e.kids.len=false):bH cells (some s) m e ar wi=none:=by
 simp only[bH];rw[pA h]
theorem Ae {cells:List Int}{s:Rg}{e:Ex}{ar wi:Nat}(h:aD e.k e.n e.nm e.kids.len=true)(hk:22<=e.k/\e.k<=25)(hs:s.1+1<=4096)(hw:wi<=4):bH cells (some s) 4 e ar wi=cE cells e.kids (some (s.1+1,s.2)) 3 ar wi:=by
 have hg:gdE cells e ar wi s:=iq h hs hw(fun h5=>by omega)(fun h6=>by omega);have hf:∀ kd:List Int,kd.length=e.kids.len->aZ e.k e.n kd=(List.replicate e.kids.len 3,4):=by
  intro kd hl;have hc:e.k=22\/e.k=23\/e.k=24\/e.k=25:=by omega
  rcases hc with hc|hc|hc|hc<;>rw[hc] at h ⊢<;>simp[aD] at h
  ·rw[h.2.2];rfl
  ·rw[h.2.1];rfl
  ·rw[h.2.2];rfl
  ·rw[<-hl];rfl
 simp only[bH];rw[wW 3 4 hg(by omega)(by omega) hf(by omega)];cases cE cells e.kids(some(s.1+1,s.2)) 3 ar wi with
 | none=>rfl
 | some s'=>rfl
theorem KT.set {w:World}{wb kb nc:Nat}{t:Nat->Option Ex}(h:KT w (Nf2 wb kb) kb nc t)(p:Addr)(v:Value)(hp:p.block=wb)(hne:wb≠kb):KT (w.setCell p v) (Nf2 wb kb) kb nc t :=
 h.mono(heap_setCell_other w p kb v(by rw[hp];exact fun h=>hne h.symm))(fun k hk _=>heap_setCell_other w p k v(by rw[hp];exact hk.1))(by simp)
theorem Inw.set {w:World}{wb kb:Nat}{bv:Value}{xs:List Int}(h:Inw w (Nf2 wb kb) bv xs)(p:Addr)(v:Value)(hp:p.block=wb):Inw (w.setCell p v) (Nf2 wb kb) bv xs :=
 h.mono(fun k hk _=>heap_setCell_other w p k v(by rw[hp];exact hk.1))(by simp)(fun _ h _=>h)
theorem SlN.set {w:World}{wb kb:Nat}{f:Fs}{ao:Option Addr}(h:SlN w (Nf2 wb kb) f ao)(p:Addr)(v:Value)(hp:p.block=wb):SlN (w.setCell p v) (Nf2 wb kb) f ao :=
 h.mono(fun k hk _=>heap_setCell_other w p k v(by rw[hp];exact hk.1))(by simp)(fun _ h _=>h)
theorem Et {N:Nat}(IH:jh N)(e:Ex)(ao:Option Addr)(cap wb kb:Nat)(bv:Value)(cells:List Int)(ar wi:Nat)(s:Rg)(w:World)(hN:e.kids.size<=N)(hf:cr e)(hwi:wi<=4)(har:ar<=wi)(hne:wb≠kb)(h:WD w wb kb bv cells.length (some s))(hn:Inw w (Nf2 wb kb) bv cells)(S:SlN w (Nf2 wb kb) e.kids ao) :
  Calls Tryz.prog 170 #[.pointer(some⟨wb,0,none⟩),exN e ao cap,.int .i64(ar:Nat),.int .i64(wi:Nat)] w(fD w wb kb bv cells.length(bH cells(some s) 4 e ar wi)):=by
 obtain⟨Z,hZ⟩:∃Z,Z=bH cells(some s) 4 e ar wi:=⟨_,rfl⟩
 rw[<-hZ];have HZ:Hid(Z=bH cells(some s) 4 e ar wi):=hZ;clear hZ;have hlen:=hf.len;have B0:Below w.heap.size w(w.alloc(.cells #[.int .i64 e.k,.int .i64 e.n,stv e.nm,.slice ao e.kids.len cap] 34)):=(Below.refl _ w).alloc(Nat.le_refl _) _;have E0:(w.alloc(.cells #[.int .i64 e.k,.int .i64 e.n,stv e.nm,.slice ao e.kids.len cap] 34)).heap[w.heap.size]?=some(.cells #[.int .i64 e.k,.int .i64 e.n,stv e.nm,.slice ao e.kids.len cap] 34):=heap_alloc_new w _;have W0:=h.below B0;have S0:=S.belowP B0;have N0:=hn.below B0;have hwb:=h.lt;have hkb:=h.ltk;clear h S hn;rw[ah];go_enter Tryz.func170,Tryz.ntmps170;go_upto_region 1 with fail;generalize w.alloc(.cells #[.int .i64 e.k,.int .i64 e.n,stv e.nm,.slice ao e.kids.len cap] 34)=w0 at *;have KK:Kp wb kb w w0:=Kp.ofBelow B0;obtain⟨bx,hbx⟩:∃bx,bx=w.heap.size:=⟨_,rfl⟩
 rw[<-hbx] at E0 ⊢;have hb1:bx≠wb:=by omega
 have hb2:bx≠kb:=by omega
 have hkb0:=W0.ltk;obtain⟨W0,hs,KT0⟩:=W0;obtain⟨q0,q1,q2,q3,qf⟩:=aI W0;have F1:=(f7 W0(.int .i64((s.1:Int)+1))).1;have K1:=KK.set⟨wb,1,none⟩(.int .i64((s.1:Int)+1))(.inr(.inl rfl));have E1:=(heap_setCell_other w0⟨wb,1,none⟩ bx(.int .i64((s.1:Int)+1)) hb1).trans E0;have N1:=N0.set⟨wb,1,none⟩(.int .i64((s.1:Int)+1)) rfl;have S1:=S0.set⟨wb,1,none⟩(.int .i64((s.1:Int)+1)) rfl;have KT1:=KT0.set⟨wb,1,none⟩(.int .i64((s.1:Int)+1)) rfl hne;have hk1:kb<(w0.setCell⟨wb,1,none⟩(.int .i64((s.1:Int)+1))).heap.size:=by simpa using hkb0
 clear hbx hwb hkb B0 E0 KK N0 S0 KT0 W0;go_upto_region 2 with fail;generalize w0.setCell⟨wb,1,none⟩(.int .i64((s.1:Int)+1))=w1 at *;clear q0 q1 q2 q3 qf hkb0;obtain⟨q0,q1,q2,q3,qf⟩:=aI F1;obtain⟨p0,p1,p2,p3,pf⟩:=aI E1;have c1:=yb e ao cap w1 hf.nm;rw[ah] at c1;have BAD:∀ {w2:World},Hid(Z=none)->Below w1.heap.size w1 w2->Hid(fD w wb kb bv cells.length Z(.returned(.tuple #[]))(w2.setCell⟨wb,3,none⟩(.bool false))):=by
  intro w2 hz b2;refine⟨rfl,?_,(K1.trans(Kp.ofBelow b2)).set _ _(.inr(.inl rfl))⟩;rw[hz.out];exact⟨by simpa using Nat.lt_of_lt_of_le hk1 b2.size,_,_,(f7((b2.block _(lt_of_block F1)).trans F1)(.bool false)).2⟩
 by_cases hs1:4096<s.1+1
 ·have HB:=BAD(by show Z=none;rw[HZ.out];exact xM hs1)(Below.refl _ w1);have hI:(4096:Int)<(s.1:Int)+1:=by omega
  clear BAD HZ;clear c1 p1 p2 p3 N1 S1 E1 KT1;go_wp2
  go_end0
  exact HB.out
 have hI:¬(4096:Int)<(s.1:Int)+1:=by omega
 by_cases hk1:e.k<22
 ·have HB:=BAD(by show Z=none;rw[HZ.out];exact ph(.inl hk1))(Below.refl _ w1);clear BAD HZ;clear c1 p1 p2 p3 N1 S1 E1 KT1;go_wp2
  go_end0
  exact HB.out
 by_cases hk2:25<e.k
 ·have HB:=BAD(by show Z=none;rw[HZ.out];exact ph(.inr hk2))(Below.refl _ w1);clear BAD HZ;clear c1 p1 p2 p3 N1 S1 E1 KT1;go_wp2
  go_end0
  exact HB.out
 go_wp2_with fail;refine c1.mono ?_;rintro x w2⟨rfl,b2⟩;have F2:=(b2.block _(lt_of_block F1)).trans F1;have E2:=(b2.block _(lt_of_block E1)).trans E1;have N2:=N1.below b2;have S2:=S1.belowP b2;have hkt:=KT1;obtain⟨arr,hkx,-⟩:=hkt;have KT2:=KT1.mono(b2.block _(lt_of_block hkx))(fun i _ hl=>b2.block i hl) b2.size;have K2:=K1.trans(Kp.ofBelow b2);cases hd:aD e.k e.n e.nm e.kids.len with
 | false =>
  have HB:=BAD(by show Z=none;rw[HZ.out];exact xZ hd) b2;clear c1 BAD HZ q0 q1 q2 q3 qf p0 p1 p2 p3 pf hkx;obtain⟨q0,q1,q2,q3,qf⟩:=aI F2;obtain⟨p0,p1,p2,p3,pf⟩:=aI E2;clear F1 E1 N1 S1 KT1 K1 K2 KT2 N2 S2 F2 E2;go_wp2
  go_end0
  exact HB.out
 | true =>
  have HZ2:Hid(cE cells e.kids(some(s.1+1,s.2)) 3 ar wi=Z):=by show _=Z;rw[HZ.out];exact(Ae hd(by omega)(by omega) hwi).symm
  have W2:WD w2 wb kb bv cells.length(some(s.1+1,s.2)):=⟨F2,by show s.1+1<=4096;omega,KT2⟩
  clear c1 BAD HZ q0 q1 q2 q3 qf p0 p1 p2 p3 pf hkx;clear F1 E1 N1 S1 KT1 K1 KT2 F2 b2 hd;go_wp2;go_loopw [8](fun v wr=>∃(d r:Fs)(st':Dg),Hid(e.kids=d.app r)/\v=.int .i64(d.len:Nat)/\Hid(cE cells r st' 3 ar wi=Z)/\WD wr wb kb bv cells.length st'/\wr.heap[bx]?=some(.cells #[.int .i64 e.k,.int .i64 e.n,stv e.nm,.slice ao e.kids.len cap] 34)/\Inw wr(Nf2 wb kb) bv cells/\SlN wr(Nf2 wb kb) e.kids ao/\Kp wb kb w wr)(fun v _=>e.kids.len-(intOf v).toNat)
  case atStart=>exact⟨.nil,e.kids,_,rfl,by show _=Value.int .i64((0:Nat):Int);rfl,HZ2.out,W2,E2,N2,S2,K2⟩
  case round =>
   clear HZ2 W2 E2 N2 S2 K2;obtain⟨d,r,st',hk,rfl,HA,W1,E1,N1,S1,K1⟩:=hrel;have hlk:e.kids.len=d.len+r.len:=by rw[hk.out,Fs.len_app]
   obtain⟨p0,p1,p2,p3,pf⟩:=aI E1;obtain⟨a1,a2,V1⟩:=W1.okc;obtain⟨q0,q1,q2,q3,qf⟩:=aI V1;cases r using Fs.on with
   | nil =>
    have hlt:¬(d.len:Int)<(e.kids.len:Int):=by simp only[Fs.len] at hlk;omega
    have FIN:Hid(fD w wb kb bv cells.length Z(.returned(.tuple #[])) wr):=⟨rfl,by rw[<-HA.out];exact W1,K1⟩
    clear HA hlk W1 K1 N1 S1 E1;go_wp2
    go_end0
    exact FIN.out
   | cons kk kn km ka kks kr =>
    have hlt:(d.len:Int)<(e.kids.len:Int):=by simp only[Fs.len] at hlk;omega
    have hl3:d.len<e.kids.len:=by omega
    cases st' with
    | none =>
     simp only[Option.isSome_none] at q3;have FIN:Hid(fD w wb kb bv cells.length Z(.returned(.tuple #[])) wr):=⟨rfl,by rw[<-HA.out,fH];exact W1,K1⟩
     clear HA hlk W1 K1 N1 S1 E1 V1;go_wp2
     go_end0
     exact FIN.out
    | some s' =>
     simp only[Option.isSome_some] at q3;have hsz:e.kids.size=d.size+(kks.size+kr.size+1):=by rw[hk.out,Fs.size_app];rfl
     have hfk:cr⟨kk,kn,km,ka,kks⟩:=hf.kid(d:=d)(r:=kr) hk.out;obtain⟨b,off,ak,ck,hao,lb1,-,x0,x1,x2,x3,SK⟩:=SlN.kidQ(by rw[<-hk.out];exact S1);subst hao;have c1:=iQ IH⟨kk,kn,km,ka,kks⟩ ak ck wb kb bv cells ar wi 3(some s') wr(fun _=>by show kks.size<N;omega) hfk hwi har hne(fun _=>by decide) W1 N1 SK;rw[ah] at c1;simp only at c1;have HA2:Hid(cE cells kr(bH cells(some s') 3⟨kk,kn,km,ka,kks⟩ ar wi) 3 ar wi=Z):=HA.out;have hk2:Hid(e.kids=(d.snoc⟨kk,kn,km,ka,kks⟩).app kr):=by show e.kids=_;rw[hk.out];unfold Fs.snoc;rw[Fs.app_assoc];rfl
     have hl2:(d.len:Int)+1=((d.snoc⟨kk,kn,km,ka,kks⟩).len:Nat):=by rw[Fs.len_snoc];rfl
     generalize bH cells(some s') 3⟨kk,kn,km,ka,kks⟩ ar wi=st2 at *;clear HA hlk hsz hfk SK hk W1 V1;go_wp2_with fail;refine c1.mono ?_;rintro x w2⟨rfl,W2,k2⟩;have E2:=(k2.block bx(lt_of_block E1) hb1 hb2).trans E1;have N2:=N1.kp k2;have S2:=S1.kp k2;have K2:=K1.trans k2;clear c1 x0 x1 x2 x3 p0 p1 p2 p3 pf q0 q1 q2 q3 qf k2 E1 K1 N1 S1;go_wp2;go_roundw
     case rel=>exact⟨_,kr,st2,hk2,by rw[<-hl2],HA2,W2,E2,N2,S2,K2⟩
     case measure=>simp[intOf];omega
theorem Kp.cell {a b:Nat}{w w':World}(h:Kp a b w w'){g:Nat}(hg:g<w.heap.size)(ha:g≠a)(hb:g≠b)(j:Nat):w'.cell? ⟨g,j,none⟩=w.cell? ⟨g,j,none⟩:=World.cell?_of_block (a:=⟨g,j,none⟩) (h.block g hg ha hb)
theorem cM {w w':World}{wb kb:Nat}{bv:Value}{nc:Nat}{st:Dg}{g:Int}{r:Option (Rg × Int)}(hc:r=anD st g)(W:WD w' wb kb bv nc st)(K:Kp wb kb w w'):aT w wb kb bv nc r (.returned (.int .i64 g)) w':=by
 subst hc;cases st with
 | none=>exact⟨⟨g,rfl,fun s k h=>by cases h⟩,W,K⟩
 | some s=>exact⟨⟨g,rfl,fun s k h=>by injection h with h;injection h⟩,W,K⟩
theorem Bn {N:Nat}(IH:jh N)(e t x:Ex)(ao:Option Addr)(cap wb kb:Nat)(bv:Value)(cells:List Int)(ar wi:Nat)(s:Rg)(w:World)(hk:e.kids=Fs.ex t (Fs.ex x .nil))(hN:e.kids.size<=N)(hf:cr e)(hwi:wi<=4)(har:ar<=wi)(hne:wb≠kb)(h:WD w wb kb bv cells.length (some s))(hn:Inw w (Nf2 wb kb) bv cells)(S:SlN w (Nf2 wb kb) e.kids ao) :
  Calls Tryz.prog 108 #[.pointer(some⟨wb,0,none⟩),exN e ao cap,.int .i64(ar:Nat),.int .i64(wi:Nat)] w(aT w wb kb bv cells.length(anD(bH cells(bH cells(some s) 4 t ar(wi+1))(cG e.n) x(ar+1)(wi+1))(cq e.n))):=by
 have hl:e.kids.len=2:=by rw[hk];rfl
 have HK:Hid(e.kids=Fs.ex t(Fs.ex x .nil)):=hk;have hsz:e.kids.size=t.kids.size+(x.kids.size+0+1)+1:=by rw[hk];rfl
 have hft:cr t:=hf.kid(d:=.nil) hk;have hfx:cr x:=hf.kid(d:=Fs.ex t .nil) hk;have HL:Hid(e.kids.len=2):=hl;clear hk hl;have B0:Below w.heap.size w(w.alloc(.cells #[.int .i64 e.k,.int .i64 e.n,stv e.nm,.slice ao 2 cap] 34)):=(Below.refl _ w).alloc(Nat.le_refl _) _;have E0:(w.alloc(.cells #[.int .i64 e.k,.int .i64 e.n,stv e.nm,.slice ao 2 cap] 34)).heap[w.heap.size]?=some(.cells #[.int .i64 e.k,.int .i64 e.n,stv e.nm,.slice ao 2 cap] 34):=heap_alloc_new w _;have W0:=h.below B0;have S0:=S.belowP B0;have N0:=hn.below B0;have hwb:=h.lt;have hkb:=h.ltk;clear h S hn;rw[ah,HL.out];go_enter Tryz.func108,Tryz.ntmps108;go_upto_region 1 with fail;generalize w.alloc(.cells #[.int .i64 e.k,.int .i64 e.n,stv e.nm,.slice ao 2 cap] 34)=w0 at *;have KK:Kp wb kb w w0:=Kp.ofBelow B0;obtain⟨bx,hbx⟩:∃bx,bx=w.heap.size:=⟨_,rfl⟩
 rw[<-hbx] at E0 ⊢;have hb1:bx≠wb:=by omega
 have hb2:bx≠kb:=by omega
 clear hbx hwb hkb B0;obtain⟨p0,p1,p2,p3,pf⟩:=aI E0;by_cases h4:wi=4
 ·subst h4;have HR:Hid(aT w wb kb bv cells.length(anD(bH cells(bH cells(some s) 4 t ar(4+1))(cG e.n) x(ar+1)(4+1))(cq e.n))(.returned(.int .i64 0))(w0.setCell⟨wb,3,none⟩(.bool false))):=by
   rw[vd(by omega)];obtain⟨V0,-,arr,V1,-⟩:=W0;exact⟨⟨0,rfl,fun s k h=>by cases h⟩,⟨by simpa using lt_of_block V1,_,_,(f7 V0(.bool false)).2⟩,KK.set _ _(.inr(.inl rfl))⟩
  obtain⟨V0,-,-⟩:=W0;obtain⟨q0,q1,q2,q3,qf⟩:=aI V0;clear S0 N0 KK;go_wp2;exact bodyPost_ret(v:=.int .i64 0)(by simp[results,Tryz.results108,go_sem]) rfl HR.out
 ·have hwb:((wi:Int)==4)=false:=by simp;omega
  have S0x:SlN w0(Nf2 wb kb)(Fs.nil.app(Fs.ex t(Fs.ex x .nil))) ao:=by rw[HK.out] at S0;exact S0
  obtain⟨gb,off,ak,ck,hao,y0,y1,y2,y3,SK⟩:=SlN.kidP S0x 0 rfl;subst hao;simp only[Nat.zero_mul,Nat.add_zero] at y0 y1 y2 y3;have c1:=Et IH t ak ck wb kb bv cells ar(wi+1) s w0(by omega) hft(by omega)(by omega) hne W0 N0 SK;have hcast:((wi+1:Nat):Int)=(wi:Int)+1:=rfl;have hcast2:((ar+1:Nat):Int)=(ar:Int)+1:=rfl;rw[ah,hcast] at c1;go_wp2_with fail;refine c1.mono ?_;rintro z wc⟨rfl,W1,K1⟩;have E1:=(K1.block _(lt_of_block E0) hb1 hb2).trans E0;have S1:SlN wc(Nf2 wb kb)((Fs.ex t .nil).app(Fs.ex x .nil))(some⟨gb,off,none⟩):=by
   have:=S0.kp K1
   rw[HK.out] at this;exact this
  have N1:=N0.kp K1;have KW:=KK.trans K1;clear c1 p0 p1 p2 p3 pf y0 y1 y2 y3 SK S0x S0 W0 N0 E0 K1 KK;obtain⟨p0,p1,p2,p3,pf⟩:=aI E1;have hbl:=lt_of_block E1;obtain⟨gb',off',ak,ck,hao,hgl,hgp,x0,x1,x2,x3,SK⟩:=SlN.kidQ(x:=Fs.ex t .nil)(r:=.nil)(ks:=x.kids)(k:=x.k)(n:=x.n)(nm:=x.nm)(a:=x.a) S1;injection hao with hao
  injection hao with h1 h2
  subst h1;subst h2;have hlt1:(Fs.ex t .nil).len=1:=rfl;simp only[hlt1,Nat.one_mul] at x0 x1 x2 x3;have bdT:Below wc.heap.size wc wc.drew:=⟨rfl,rfl,rfl,Nat.le_refl _,fun _ _=>rfl⟩
  have hbo4:cG e.n≠4:=by unfold cG;split<;>omega
  have c3:=iQ IH x ak ck wb kb bv cells(ar+1)(wi+1)(cG e.n)(bH cells(some s) 4 t ar(wi+1)) wc.drew(fun _=>by omega) hfx(by omega)(by omega) hne(fun _=>hbo4)(W1.below bdT)(N1.below bdT)(SK.belowP bdT);rw[ah,hcast,hcast2] at c3;have c3:=fun(a1 a2:Int)(h1:a1=(ar:Int)+1)(h2:a2=(wi:Int)+1)=>(by rw[h1,h2];exact c3:Calls Tryz.prog 106 #[.pointer(some⟨wb,0,none⟩),.agg #[.int .i64 x.k,.int .i64 x.n,stv x.nm,.slice ak x.kids.len ck],.int .i64 a1,.int .i64 a2,.int .i64(cG e.n)] wc.drew(fD wc.drew wb kb bv cells.length(bH cells(bH cells(some s) 4 t ar(wi+1))(cG e.n) x(ar+1)(wi+1))));have hbq:=fun wy=>xY e.n wy;have hwq:=fun wy=>oO e.n wy;obtain⟨bo,hbo'⟩:∃bo,bo=cG e.n:=⟨_,rfl⟩
  rw[<-hbo'] at c3 hbq ⊢;have hrb:Hid(cG e.n=bo):=hbo'.symm;obtain⟨st2,hst2⟩:∃st2,st2=bH cells(bH cells(some s) 4 t ar(wi+1)) bo x(ar+1)(wi+1):=⟨_,rfl⟩
  rw[<-hst2] at c3;have HST:Hid(anD(bH cells(bH cells(some s) 4 t ar(wi+1)) bo x(ar+1)(wi+1))(cq e.n)=anD st2(cq e.n)):=by show _=_;rw[hst2]
  clear hst2 hbo' hbo4 W1 N1 SK S1 IH HK HL hsz hft hfx hf hN h4 hwb hcast hcast2 hlt1 p0 p2 pf;go_upto_region 5 with fail;go_cut [](fun wx=>WD wx wb kb bv cells.length st2/\Kp wb kb wc wx)
  case first =>
   go_wp2_with fail;go_region_held3(fun wx=>wx.cell?⟨bx,1,none⟩=some(.int .i64 e.n)/\wx.cell?⟨bx,3,none⟩=some(.slice(some⟨gb,off,none⟩) 2 cap)/\wx.cell?⟨gb,off+4,none⟩=some(.int .i64 x.k)/\wx.cell?⟨gb,off+4+1,none⟩=some(.int .i64 x.n)/\wx.cell?⟨gb,off+4+2,none⟩=some(stv x.nm)/\wx.cell?⟨gb,off+4+3,none⟩=some(.slice ak x.kids.len ck))
    (first|exact KA|go_keep)
    (first
     | (go_at_call 171;refine(hbq _).mono ?_;rintro z w3⟨rfl,rfl⟩)
     | (go_at_call 106;refine(c3 _ _ ?_ ?_).mono ?_;(rw[IntKind.wrap_i64];omega);(rw[IntKind.wrap_i64];omega);rintro z w3⟨rfl,W3,K3⟩;have KA:w3.cell?⟨bx,1,none⟩=some(.int .i64 e.n)/\w3.cell?⟨bx,3,none⟩=some(.slice(some⟨gb,off,none⟩) 2 cap)/\w3.cell?⟨gb,off+4,none⟩=some(.int .i64 x.k)/\w3.cell?⟨gb,off+4+1,none⟩=some(.int .i64 x.n)/\w3.cell?⟨gb,off+4+2,none⟩=some(stv x.nm)/\w3.cell?⟨gb,off+4+3,none⟩=some(.slice ak x.kids.len ck):=⟨(K3.cell hbl hb1 hb2 _).trans p1,(K3.cell hbl hb1 hb2 _).trans p3,(K3.cell hgl hgp.1 hgp.2 _).trans x0,(K3.cell hgl hgp.1 hgp.2 _).trans x1,(K3.cell hgl hgp.1 hgp.2 _).trans x2,(K3.cell hgl hgp.1 hgp.2 _).trans x3⟩))
   all_goals(
    have HZ:Hid(WD w3 wb kb bv cells.length st2/\Kp wb kb wc w3):=⟨W3,Kp.bel bdT K3⟩
    clear KA W3 K3 c3 hbq;go_wp2;go_meet;exact HZ.out)
  case rest =>
   obtain⟨W3,K3⟩:=hcut;have E3:=(K3.block _ hbl hb1 hb2).trans E1;obtain⟨p0,p1,p2,p3,pf⟩:=aI E3;have HR:Hid(aT w wb kb bv cells.length(anD(bH cells(bH cells(some s) 4 t ar(wi+1)) bo x(ar+1)(wi+1))(cq e.n))(.returned(.int .i64(cq e.n))) wc):=cM HST.out W3(KW.trans K3);clear W3 K3 KW HST E1 E3;generalize cq e.n=wh at *;go_wp2_with(go_at_call 172;refine(hwq _).mono ?_;rintro z w4⟨rfl,rfl⟩);go_wp2;exact bodyPost_ret(v:=.int .i64 wh)(by simp[results,Tryz.results108,go_sem]) rfl(by rw[hrb.out];exact HR.out)
open Go.ChangeShapes Go.WideShapes Go.ChangeAt Go.RowKit Go.Maps
abbrev Lt0 (n0:Nat):Nat->Prop:=fun k=>k<n0
structure RD (w:World)(n0 rb mb:Nat)(bv:Value)(c:Nat)(s:Rg):Prop where
 blk:w.heap[rb]?=some(.cells #[bv,.map(some mb),.int .i64(s.1:Nat)] 197(0,0))
 mp:∃m,m+c<=s.1/\MpN w(Lt0 n0) mb m s.2
 le:s.1<=4096
 fit:∀ i y,s.2 i=some y->cr y
theorem RD.ltm {w:World}{n0 rb mb c:Nat}{bv:Value}{s:Rg}(h:RD w n0 rb mb bv c s):mb<w.heap.size:=by obtain⟨m,-,h⟩:=h.mp;exact h.lt
theorem RD.less {w:World}{n0 rb mb c:Nat}{bv:Value}{s:Rg}(h:RD w n0 rb mb bv (c+1) s):RD w n0 rb mb bv c s:=⟨h.blk,by obtain⟨m,hm,hp⟩:=h.mp;exact⟨m,by omega,hp⟩,h.le,h.fit⟩
theorem RD.below {w w':World}{n0 rb mb c:Nat}{bv:Value}{s:Rg}(h:RD w n0 rb mb bv c s)(b:Below w.heap.size w w'):RD w' n0 rb mb bv c s:=by
 refine⟨(b.block _(lt_of_block h.blk)).trans h.blk,?_,h.le,h.fit⟩;obtain⟨m,hm,hp⟩:=h.mp;exact⟨m,hm,hp.mono(b.block _ hp.lt)(fun i _ hl=>b.block i hl) b.size⟩
def jT (w:World)(n0 rb mb:Nat)(bv:Value)(c:Nat)(r:Option Rg)(x:Ending)(w':World):Prop:=x=.returned (.bool r.isSome)/\(∀ s,r=some s->RD w' n0 rb mb bv c s)/\Kp rb mb w w'
theorem yN {cells:List Int}{i:Nat}{x:Ex}{ar:Nat}{s:Rg}{lv:Int}(h:cells[i]?=some lv):cT cells (i:Nat) (Fs.ex x .nil) ar s=if (ar:Int)<lv\/lv<hgE x ar then none else (match s.2 i with|none=>some (s.1,fun j=>if j=i then some x else s.2 j)|some y=>if bC y x=true then some s else none):=by
 have hh:(Fs.ex x .nil).head=x:=rfl;simp only[cT,Int.toNat_natCast,h,hh];rfl
theorem AJ (k0:Int)(i:Nat)(nm:List UInt8)(x:Ex)(ao:Option Addr)(cap n0 rb mb:Nat)(bv:Value)(cells:List Int)(ar wi:Nat)(s:Rg)(w:World)(hi:i<cells.length)(hcl:cells.length<=256)(hfx:cr x)(hnv:x.nv)(har:ar<=100)(hwi:wi<=100)(hne:rb≠mb)(hn0:n0<=mb)(c:Nat)(h:RD w n0 rb mb bv (c+1) s)(hn:Inw w (Lt0 n0) bv cells)(S:SlN w (Lt0 n0) (Fs.ex x .nil) ao) :
  Calls Tryz.prog 219 #[.pointer(some⟨rb,0,none⟩),.agg #[.int .i64 k0,.int .i64(i:Nat),stv nm,.slice ao 1 cap],.agg #[.int .i64(ar:Nat),.int .i64(wi:Nat)]] w(jT w n0 rb mb bv c(cT cells(i:Nat)(Fs.ex x .nil) ar s)):=by
 obtain⟨R,hR⟩:∃R,R=cT cells(i:Nat)(Fs.ex x .nil) ar s:=⟨_,rfl⟩
 rw[<-hR];obtain⟨lv,hlv⟩:∃lv,cells[i]?=some lv:=⟨_,List.getElem?_eq_getElem hi⟩
 have HR:Hid(R=if(ar:Int)<lv\/lv<hgE x ar then none else(match s.2 i with|none=>some(s.1,fun j=>if j=i then some x else s.2 j)|some y=>if bC y x=true then some s else none)):=hR.trans(yN hlv);clear hR;obtain⟨gb,off,ak,ck,hao,hgl,hgp,y0,y1,y2,y3,SK⟩:=SlN.kidQ(x:=.nil)(r:=.nil)(ks:=x.kids)(k:=x.k)(n:=x.n)(nm:=x.nm)(a:=x.a) S;subst hao;have hl0:(Fs.nil).len=0:=rfl;simp only[hl0,Nat.zero_mul,Nat.add_zero] at y0 y1 y2 y3;obtain⟨aoc,capc,rfl,hcells⟩:=hn;rcases hcells with hcells|⟨cb,coff,rfl,hcp,hcb,hcc⟩
 ·subst hcells;simp at hi
 have ccl:=hcc i lv hlv;clear hcc S;have hiI:(i:Int)<(cells.length:Int):=by omega
 obtain⟨w0,hw0⟩:∃w0,w0=(w.alloc(.cells #[.int .i64 k0,.int .i64(i:Nat),stv nm,.slice(some⟨gb,off,none⟩) 1 cap] 34)).alloc(.cells #[.int .i64(ar:Nat),.int .i64(wi:Nat)] 200):=⟨_,rfl⟩
 have B0:Below w.heap.size w w0:=by rw[hw0];exact((Below.refl _ w).alloc(Nat.le_refl _) _).alloc(by simp) _
 have E0:w0.heap[w.heap.size]?=some(.cells #[.int .i64 k0,.int .i64(i:Nat),stv nm,.slice(some⟨gb,off,none⟩) 1 cap] 34):=by
  rw[hw0];exact(Below.heap_alloc _ _ _(by simp)).trans(heap_alloc_new w _)
 have T0:w0.heap[w.heap.size+1]?=some(.cells #[.int .i64(ar:Nat),.int .i64(wi:Nat)] 200):=by
  rw[hw0]
  have:=heap_alloc_new(w.alloc(.cells #[.int .i64 k0,.int .i64(i:Nat),stv nm,.slice(some⟨gb,off,none⟩) 1 cap] 34))(.cells #[.int .i64(ar:Nat),.int .i64(wi:Nat)] 200)
  simpa using this
 have R0:=h.below B0;have hrl:=lt_of_block h.blk;have hml:=h.ltm;have SK0:=SK.belowP B0;have Y0:=(B0.cell(p:=⟨gb,off,none⟩) hgl).trans y0;have Y1:=(B0.cell(p:=⟨gb,off+1,none⟩) hgl).trans y1;have Y2:=(B0.cell(p:=⟨gb,off+2,none⟩) hgl).trans y2;have Y3:=(B0.cell(p:=⟨gb,off+3,none⟩) hgl).trans y3;have CC0:=(B0.cell(p:=⟨cb,coff+i,none⟩) hcb).trans ccl;have hgl0:=Nat.lt_of_lt_of_le hgl B0.size;have hcb0:=Nat.lt_of_lt_of_le hcb B0.size;have KK:Kp rb mb w w0:=Kp.ofBelow B0;go_enter Tryz.func219,Tryz.ntmps219;go_upto_region 1 with fail;rw[<-hw0];obtain⟨bx,hbx⟩:∃bx,bx=w.heap.size:=⟨_,rfl⟩
 rw[<-hbx] at E0 T0 ⊢;have hb1:bx≠rb:=by omega
 have hb2:bx≠mb:=by omega
 have hs1:bx+1≠rb:=by omega
 have hs2:bx+1≠mb:=by omega
 clear hbx hw0 B0 hrl hml y0 y1 y2 y3 ccl hgl hcb h SK;have hbl:=lt_of_block E0;have hsl:=lt_of_block T0;obtain⟨p0,p1,p2,p3,pf⟩:=aI E0;obtain⟨t0,t1,tf⟩:=eY T0;obtain⟨r0,r1,r2,rf⟩:=it R0.blk;have hrl:=lt_of_block R0.blk;go_wp2_with fail;go_region_held3(fun wx=>wx.cell?⟨bx,1,none⟩=some(.int .i64(i:Nat))/\wx.cell?⟨bx,3,none⟩=some(.slice(some⟨gb,off,none⟩) 1 cap)/\wx.cell?⟨rb,0,none⟩=some(.slice(some⟨cb,coff,none⟩) cells.length capc)/\wx.cell?⟨cb,coff+i,none⟩=some(.int .i64 lv)/\wx.cell?⟨gb,off,none⟩=some(.int .i64 x.k)/\wx.cell?⟨gb,off+1,none⟩=some(.int .i64 x.n)/\wx.cell?⟨gb,off+2,none⟩=some(stv x.nm)/\wx.cell?⟨gb,off+3,none⟩=some(.slice ak x.kids.len ck))(go_keep)(fail);have B1:Below w0.heap.size w0((w0.alloc(.cells #[.int .i64 x.k,.int .i64 x.n,stv x.nm,.slice ak x.kids.len ck] 34)).drew):=(Below.refl _ w0).alloc(Nat.le_refl _) _ |>.trans⟨rfl,rfl,rfl,Nat.le_refl _,fun _ _=>rfl⟩
 have X1:((w0.alloc(.cells #[.int .i64 x.k,.int .i64 x.n,stv x.nm,.slice ak x.kids.len ck] 34)).drew).heap[w0.heap.size]?=some(.cells #[.int .i64 x.k,.int .i64 x.n,stv x.nm,.slice ak x.kids.len ck] 34):=heap_alloc_new w0 _;have R1:=R0.below B1;have E1:=(B1.block _ hbl).trans E0;have T1:=(B1.block _ hsl).trans T0;have SK1:=SK0.belowP B1;have KK1:=KK.trans(Kp.ofBelow B1);have hxr:w0.heap.size≠rb:=by omega
 have hxm:w0.heap.size≠mb:=by have:=R0.ltm;omega
 have hxb:Hid(bx<w0.heap.size/\bx+1<w0.heap.size):=⟨hbl,hsl⟩
 clear p0 p1 p2 p3 pf t0 t1 tf r0 r1 r2 rf R0 E0 T0 SK0 KK Y0 Y1 Y2 Y3 CC0 hgl0 hcb0 hbl hsl hrl B1;generalize(w0.alloc(.cells #[.int .i64 x.k,.int .i64 x.n,stv x.nm,.slice ak x.kids.len ck] 34)).drew=w1 at *;generalize w0.heap.size=xb at *;obtain⟨p0,p1,p2,p3,pf⟩:=aI E1;obtain⟨t0,t1,tf⟩:=eY T1;obtain⟨r0,r1,r2,rf⟩:=it R1.blk;obtain⟨z0,z1,z2,z3,zf⟩:=aI X1;by_cases hlt:(ar:Int)<lv
 ·have HF:Hid(jT w n0 rb mb(.slice(some⟨cb,coff,none⟩) cells.length capc) c R(.returned(.bool false)) w1):=by
   rw[HR.out,if_pos(.inl hlt)];exact⟨rfl,fun s h=>(by cases h),KK1⟩
  clear HR R1 E1 T1 X1 SK1 KK1;go_wp2;go_ret;exact HF.out
 have c1:=pd(x.kids.size+1) x ak ck ar w1(by omega) hfx.len hfx.sh hnv(by omega)(by omega) SK1.all;rw[ah] at c1;generalize hgE x ar=hx at *;go_wp2_with fail;refine c1.mono ?_;rintro z w2⟨rfl,B2⟩;have R2:=R1.below B2;have E2:=(B2.block _(lt_of_block E1)).trans E1;have T2:=(B2.block _(lt_of_block T1)).trans T1;have X2:=(B2.block _(lt_of_block X1)).trans X1;have SK2:=SK1.belowP B2;have KK2:=KK1.trans(Kp.ofBelow B2);clear c1 p0 p1 p2 p3 pf t0 t1 tf r0 r1 r2 rf z0 z1 z2 z3 zf R1 E1 T1 X1 SK1 KK1 B2;obtain⟨p0,p1,p2,p3,pf⟩:=aI E2;obtain⟨t0,t1,tf⟩:=eY T2;obtain⟨r0,r1,r2,rf⟩:=it R2.blk;obtain⟨z0,z1,z2,z3,zf⟩:=aI X2;by_cases hlh:lv<hx
 ·have HF:Hid(jT w n0 rb mb(.slice(some⟨cb,coff,none⟩) cells.length capc) c R(.returned(.bool false)) w2):=by
   rw[HR.out,if_pos(.inr hlh)];exact⟨rfl,fun s h=>(by cases h),KK2⟩
  clear HR R2 E2 T2 X2 SK2 KK2;go_wp2;go_ret;exact HF.out
 have HR2:Hid(R=(match s.2 i with|none=>some(s.1,fun j=>if j=i then some x else s.2 j)|some y=>if bC y x=true then some s else none)):=by show R=_;rw[HR.out,if_neg(by omega)]
 clear HR;have hwf:(Lit.int .i64(i:Nat)).wf=true:=WalkArith.wf_i64(by omega);obtain⟨m,hm,M2⟩:=R2.mp;have hml:=M2.lt;have hrl:=lt_of_block R2.blk;have hbl:=lt_of_block E2;have hxl:=lt_of_block X2;have bdT:Below w2.heap.size w2 w2.drew:=⟨rfl,rfl,rfl,Nat.le_refl _,fun _ _=>rfl⟩
 have M2d:MpN w2.drew(Lt0 n0) mb m s.2:=M2.mono rfl(fun _ _ _=>rfl)(Nat.le_refl _);have bdA:Below w2.heap.size w2((w2.alloc(.cells #[.int .i64 0,.int .i64 0,.string⟨#[]⟩,.slice none 0 0] 34)).drew):=(Below.refl _ w2).alloc(Nat.le_refl _) _ |>.trans⟨rfl,rfl,rfl,Nat.le_refl _,fun _ _=>rfl⟩
 have M2a:MpN((w2.alloc(.cells #[.int .i64 0,.int .i64 0,.string⟨#[]⟩,.slice none 0 0] 34)).drew)(fun i=>i<w2.heap.size) mb m s.2:=M2.monoQ(bdA.block _ hml)(fun i _ hl=>bdA.block i hl) bdA.size(fun i _ hl=>hl);cases ht:s.2 i with
 | none =>
  obtain⟨a1,a2,a3,a4,a5,a6,lk1⟩:=M2d.miss hwf ht;obtain⟨d1,d2,d3,d4,d5,d6,lk2⟩:=M2a.miss hwf ht;have HF:Hid(∀ w3:World,Below w2.heap.size w2 w3->∃w4,(Instr.mapUpdate 195(.map(some mb))(.int .i64(i:Nat))(exN x ak ck)).run Tryz.prog w3.drew=.ok() w4/\jT w n0 rb mb(.slice(some⟨cb,coff,none⟩) cells.length capc) c R(.returned(.bool true)) w4):=by
   intro w3 b3;have b3d:Below w2.heap.size w2 w3.drew:=b3.trans⟨rfl,rfl,rfl,Nat.le_refl _,fun _ _=>rfl⟩;have M3:MpN w3.drew(Lt0 n0) mb m s.2:=M2.mono(b3d.block _ hml)(fun i _ hl=>b3d.block i hl) b3d.size;obtain⟨w4,hr4,M4,ht4⟩:=M3.put(fun h=>Nat.not_lt.2 hn0 h) i x ak ck hwf(by have:=R2.le;omega) ht(SK2.belowP b3d);have hg4:=ht4.grown;refine⟨w4,hr4,?_⟩;rw[HR2.out,ht];refine⟨rfl,fun s' hs'=>?_,KK2.trans((Kp.ofBelow b3d).trans⟨hg4.os,hg4.tape,hg4.output,hg4.size,fun k hk h1 h2=>hg4.block k hk(fun e=>h2(by cases e;rfl))⟩)⟩;injection hs' with hs'
   subst hs';refine⟨(hg4.block _(Nat.lt_of_lt_of_le hrl b3d.size)(fun e=>hne(by cases e;rfl))).trans((b3d.block _ hrl).trans R2.blk),?_,R2.le,?_⟩
   ·exact⟨m+1,by show m+1+c<=s.1;omega,M4.mono rfl(fun _ _ _=>rfl)(Nat.le_refl _)⟩
   ·intro j y hy;simp only at hy;split at hy
    ·injection hy with hy
     subst hy;exact hfx
    ·exact R2.fit j y hy
  go_upto_region 4 with fail;go_cut [9,10](fun v9 v10 wx=>v10=.bool false/\Below w2.heap.size w2 wx)
  case first =>
   go_wp2_with fail;go_region_held3(fun wx=>wx.cell?⟨bx,1,none⟩=some(.int .i64(i:Nat))/\wx.cell?⟨rb,1,none⟩=some(.map(some mb)))(go_keep)(fail)
   all_goals(
    have HB:Hid(∀ ob:Obj,Below w2.heap.size w2((w2.alloc ob).drew)):=fun ob=>(Below.refl _ w2).alloc(Nat.le_refl _) _ |>.trans⟨rfl,rfl,rfl,Nat.le_refl _,fun _ _=>rfl⟩
    go_wp2;go_meet;exact⟨rfl,HB.out _⟩)
  case rest =>
   obtain⟨rfl,B3⟩:=hcut;obtain⟨w4,hr4,HP⟩:=HF.out wc B3;rw[ah] at hr4;have HQ:Hid(jT w n0 rb mb(.slice(some⟨cb,coff,none⟩) cells.length capc) c R(.returned(.bool true)) w4):=HP;have p1':=(B3.cell(p:=⟨bx,1,none⟩) hbl).trans p1;have r1':=(B3.cell(p:=⟨rb,1,none⟩) hrl).trans r1;have z0':=(B3.cell(p:=⟨xb,0,none⟩) hxl).trans z0;have z1':=(B3.cell(p:=⟨xb,1,none⟩) hxl).trans z1;have z2':=(B3.cell(p:=⟨xb,2,none⟩) hxl).trans z2;have z3':=(B3.cell(p:=⟨xb,3,none⟩) hxl).trans z3;clear HF HP p0 p1 p2 p3 pf t0 t1 tf r0 r1 r2 rf z0 z1 z2 z3 zf R2 E2 T2 X2 SK2 KK2 M2 M2d M2a lk1 lk2 HR2 bdT bdA;go_wp2_with fail;go_region;go_wp2;go_ret;exact HQ.out
 | some y =>
  obtain⟨ay,cy,lk1,SY1⟩:=M2d.look hwf ht;obtain⟨ay2,cy2,lk2,SY2⟩:=M2a.look hwf ht;have hfy:=R2.fit i y ht;have HR3:Hid(R=if bC y x=true then some s else none):=by show R=_;rw[HR2.out,ht]
  rw[ah] at lk1 lk2;go_upto_region 4 with fail;go_cut [9,10](fun v9 v10 wx=>v9=.pointer(some⟨w2.heap.size,0,none⟩)/\v10=.bool true/\Below w2.heap.size w2 wx/\∃az cz,wx.heap[w2.heap.size]?=some(.cells #[.int .i64 y.k,.int .i64 y.n,stv y.nm,.slice az y.kids.len cz] 34(0,0))/\SnA wx y.kids az)
  case first =>
   have HB:Hid(∀ ob:Obj,Below w2.heap.size w2((w2.alloc ob).drew)/\((w2.alloc ob).drew).heap[w2.heap.size]?=some ob):=fun ob=>⟨(Below.refl _ w2).alloc(Nat.le_refl _) _ |>.trans⟨rfl,rfl,rfl,Nat.le_refl _,fun _ _=>rfl⟩,heap_alloc_new w2 ob⟩;have HY1:Hid(∀ ob:Obj,SnA((w2.alloc ob).drew) y.kids ay):=fun ob=>SlN.all(SlN.mono(w:=w2)(P:=Lt0 n0)(Q:=Lt0 n0)(fun i _ hl=>(HB.out ob).1.block i hl)(HB.out ob).1.size(fun _ h _=>h)(SlN.mono(w:=w2.drew)(w':=w2)(fun _ _ _=>rfl)(Nat.le_refl _)(fun _ h _=>h) SY1));have HY2:Hid(∀ ob:Obj,SnA((w2.alloc ob).drew) y.kids ay2):=fun ob=>SlN.all(SlN.mono(Q:=fun i=>i<w2.heap.size)(fun i hi _=>((HB.out ob).1.block i hi).trans(bdA.block i hi).symm)(by show(w2.alloc _).heap.size<=(w2.alloc _).heap.size;simp)(fun _ h _=>h) SY2);clear SY1 SY2 M2 M2d M2a HR2 HR3;go_wp2_with fail;go_region_held3(fun wx=>wx.cell?⟨bx,1,none⟩=some(.int .i64(i:Nat))/\wx.cell?⟨rb,1,none⟩=some(.map(some mb)))(go_keep)(fail)
   ·go_wp2;go_meet;exact⟨rfl,rfl,(HB.out _).1,_,_,(HB.out _).2,HY1.out _⟩
   ·go_wp2;go_meet;exact⟨rfl,rfl,(HB.out _).1,_,_,(HB.out _).2,HY2.out _⟩
  case rest =>
   obtain⟨rfl,rfl,B3,az,cz,Z3,SZ⟩:=hcut;have c8:=tx(y.kids.size+1) y x az ak cz ck wc(by omega) hfy.len hfy.sh hfx.len hfx.sh SZ(SK2.belowP B3).all;rw[ah,ah] at c8;have HF:Hid(∀ w4,Below wc.heap.size wc w4->jT w n0 rb mb(.slice(some⟨cb,coff,none⟩) cells.length capc) c R(.returned(.bool(bC y x))) w4):=by
    intro w4 b4;have b24:Below w2.heap.size w2 w4:=B3.trans(b4.mono B3.size);rw[HR3.out];cases hsm:bC y x with
    | false=>exact⟨rfl,fun s h=>(by cases h),KK2.trans(Kp.ofBelow b24)⟩
    | true=>exact⟨rfl,fun s' h=>(by injection h with h;subst h;exact(R2.below b24).less),KK2.trans(Kp.ofBelow b24)⟩
   have z0':=(B3.cell(p:=⟨xb,0,none⟩) hxl).trans z0;have z1':=(B3.cell(p:=⟨xb,1,none⟩) hxl).trans z1;have z2':=(B3.cell(p:=⟨xb,2,none⟩) hxl).trans z2;have z3':=(B3.cell(p:=⟨xb,3,none⟩) hxl).trans z3;obtain⟨v0,v1,v2,v3,vf⟩:=aI Z3;generalize bC y x=sm at *;clear p0 p1 p2 p3 pf t0 t1 tf r0 r1 r2 rf z0 z1 z2 z3 zf R2 E2 T2 X2 SK2 KK2 M2 M2d M2a lk1 lk2 HR2 HR3 bdT bdA SZ SY1 SY2;go_wp2_with fail;refine c8.mono ?_;rintro z w4⟨rfl,B4⟩;have HQ:=HF.out w4 B4;clear c8 HF;go_wp2;go_ret;exact HQ
theorem Wd.kp {w w':World}{rb mb:Nat}(h:Wd w)(K:Kp rb mb w w')(h1:3≠rb)(h2:3≠mb):Wd w':=by
 have hl:=h.lt;obtain⟨t,fr,h⟩:=h;exact⟨t,fr,(K.block _ hl h1 h2).trans h⟩
def iF (w:World)(n0 rb mb:Nat)(bv:Value)(c:Nat)(r:Option (Rg × Int))(x:Ending)(w':World):Prop :=
 (∃v,x=.returned(.tuple #[v,.bool r.isSome])/\∀ s k,r=some(s,k)->f9 v k)/\(∀ s k,r=some(s,k)->RD w' n0 rb mb bv c s)/\Kp rb mb w w'
def oQ (N:Nat):Prop:=∀ (e:Ex) (ao:Option Addr) (cap n0 rb mb:Nat) (bv:Value) (cells:List Int) (ar wi:Nat) (s:Rg) (c:Nat) (w:World),e.kids.size<N->cr e->wi<=5->ar<=wi->cells.length<=256->rb≠mb->n0<=rb->n0<=mb->3<n0->Wd w->RD w n0 rb mb bv c s->Inw w (Lt0 n0) bv cells->SlN w (Lt0 n0) e.kids ao ->
 Calls Tryz.prog 144 #[.pointer(some⟨rb,0,none⟩),exN e ao cap,.agg #[.int .i64(ar:Nat),.int .i64(wi:Nat)]] w(iF w n0 rb mb bv c(rgE cells e ar wi s))
def zg (cells:List Int)(e:Ex)(ar:Nat)(s1:Rg)(kd:List Int):Option (Rg × Int) :=
 if(aZ e.k e.n kd).2=0\/(aZ e.k e.n kd).1≠kd then none else
  match(if e.k=26 then cT cells e.n e.kids ar s1 else some s1) with
  | none=>none
  | some s2=>some(s2,(aZ e.k e.n kd).2)
def fT (cells:List Int)(e:Ex)(ar wi:Nat)(r:Fs)(i:Nat)(s:Rg)(ds:List Int):Option (Rg × Int) :=
 match rgF cells r e.k i ar wi s with
 | none=>none
 | some(s1,kd)=>zg cells e ar s1(ds++kd)
theorem xg {cells:List Int}{e:Ex}{ar wi:Nat}{s:Rg}(h:gdE cells e ar wi s):rgE cells e ar wi s=fT cells e ar wi e.kids 0 (s.1+1,s.2) []:=by
 unfold rgE fT;rw[if_neg h];rfl
theorem wI {cells:List Int}{e:Ex}{ar wi i:Nat}{s:Rg}{ds:List Int}:fT cells e ar wi .nil i s ds=zg cells e ar s ds:=by
 unfold fT;simp only[rgF,List.append_nil]
theorem uk {cells:List Int}{e x:Ex}{r:Fs}{ar wi i:Nat}{s:Rg}{ds:List Int}:fT cells e ar wi (Fs.ex x r) i s ds=(match rgE cells x (aL e.k i ar wi).1 (aL e.k i ar wi).2 s with|none=>none|some (s2,k)=>fT cells e ar wi r (i+1) s2 (ds++[k])):=by
 unfold fT;rw[eI];cases rgE cells x(aL e.k i ar wi).1(aL e.k i ar wi).2 s with
 | none=>rfl
 | some z =>
  obtain⟨s2,k⟩:=z;simp only;cases rgF cells r e.k(i+1) ar wi s2 with
  | none=>rfl
  | some z =>
   obtain⟨s3,rest⟩:=z;simp only[List.append_assoc,List.cons_append,List.nil_append]
theorem nJ {cells:List Int}{n:Int}{ks:Fs}{ar:Nat}{s s':Rg}(h:cT cells n ks ar s=some s'):s'.1=s.1:=by
 unfold cT at h;split at h
 ·cases h
 ·split at h
  ·cases h
  ·split at h
   ·injection h with h
    rw[<-h]
   ·split at h
    ·injection h with h
     rw[<-h]
    ·cases h
theorem nW (cells:List Int):∀ (f:Fs) (pk:Int) (i ar wi:Nat) (s s':Rg) (kd:List Int),rgF cells f pk i ar wi s=some (s',kd)->s.1+f.len<=s'.1
 | ⟨none⟩,pk,i,ar,wi,s,s',kd,h=>by
  simp only[rgF] at h;injection h with h
  injection h with h1 h2
  subst h1;exact Nat.le_refl _
 | ⟨some⟨k,n,nm,a,ks,r⟩⟩,pk,i,ar,wi,s,s',kd,h=>by
  have h0:rgF cells⟨some⟨k,n,nm,a,ks,r⟩⟩ pk i ar wi s=_:=eI cells⟨k,n,nm,a,ks⟩ r pk i ar wi s;rw[h0] at h;cases hx:rgE cells⟨k,n,nm,a,ks⟩(aL pk i ar wi).1(aL pk i ar wi).2 s with
  | none=>rw[hx] at h;cases h
  | some z =>
   obtain⟨s2,k2⟩:=z;rw[hx] at h;simp only at h;cases hr:rgF cells r pk(i+1) ar wi s2 with
   | none=>rw[hr] at h;cases h
   | some z =>
    obtain⟨s3,rest⟩:=z;rw[hr] at h;injection h with h
    injection h with h1 h2
    subst h1;have h3:=nW cells r pk(i+1) ar wi s2 s3 rest hr;obtain⟨-,s1,kd1,hk,-,-,-,-,hkp⟩:=dv hx;have h4:=nW cells ks k 0 _ _ _ _ _ hk;have h5:s2.1=s1.1:=by
     simp only at hkp;split at hkp
     ·exact nJ hkp
     ·injection hkp with hkp
      rw[hkp]
    simp only at h4;simp only[Fs.len];omega
theorem AY {cells:List Int}{e:Ex}{ar wi:Nat}{s s':Rg}{k:Int}(h:rgE cells e ar wi s=some (s',k)):s.1+1<=s'.1:=by
 obtain⟨-,s1,kd1,hk,-,-,-,-,hkp⟩:=dv h;have h4:=nW cells _ _ 0 _ _ _ _ _ hk;have h5:s'.1=s1.1:=by
  split at hkp
  ·exact nJ hkp
  ·injection hkp with hkp
   rw[hkp]
 simp only at h4;omega
theorem Fs.snoc_nv:∀ {f:Fs}{x:Ex},f.nv->x.nv->(f.snoc x).nv
 | ⟨none⟩,x,h,k=>⟨k.1,k.2,trivial⟩
 | ⟨some⟨i,n,nm,a,ks,r⟩⟩,x,h,k=>⟨h.1,h.2.1,Fs.snoc_nv(f:=r) h.2.2 k⟩
theorem Row.inA {w:World}{o:Nat->Nat}{i:Nat}{v:Value}{n:Nat}{ds:List Int}(h:Row w o i 3 1 v n (ds.map (Value.int .i64)))(hl:ds.length=n):InA w v ds:=by
 subst hl;rcases Nat.eq_zero_or_pos ds.length with h0|h0
 ·obtain⟨ao,cap,rfl⟩:=h.form;exact⟨ao,cap,rfl,.inl(List.eq_nil_of_length_eq_zero h0)⟩
 ·obtain⟨g,cap,rfl,-,-,-,hg,hc,-⟩:=h.pos h0;refine⟨_,cap,rfl,.inr⟨g,0,rfl,trivial,hg,fun j x hx=>?_⟩⟩;have hj:j<ds.length:=by
   rcases Nat.lt_or_ge j ds.length with h1|h1
   ·exact h1
   ·rw[List.getElem?_eq_none h1] at hx;cases hx
  rw[Nat.zero_add,hc j(by omega)];simp[hx]
theorem Row.pks {w:World}{o:Nat->Nat}{i:Nat}{v:Value}{n:Nat}{ps:List Value}(h:Row w o i 141 1 v n ps)(hp:∀ u,u ∈ ps->∃ty x,u=.iface ty x):PKs w v n:=by
 rcases Nat.eq_zero_or_pos n with h0|h0
 ·obtain⟨ao,cap,rfl⟩:=h.form;exact⟨ao,cap,rfl,.inl h0⟩
 ·have hlen:=h.len;obtain⟨g,cap,rfl,-,-,-,hg,hc,-⟩:=h.pos h0;refine⟨_,cap,rfl,.inr⟨g,0,rfl,hg,fun j hj=>?_⟩⟩;have hx:ps[j]?=some(ps[j]'(by omega)):=List.getElem?_eq_getElem(by omega);obtain⟨ty,u,hu⟩:=hp _(List.mem_of_getElem? hx);refine⟨ty,u,?_⟩;rw[Nat.zero_add,hc j(by omega),hx,hu]
theorem PKs.below {w w':World}{v:Value}{n:Nat}(h:PKs w v n)(b:Below w.heap.size w w'):PKs w' v n:=by
 obtain⟨ak,ck,rfl,h⟩:=h;refine⟨ak,ck,rfl,?_⟩;rcases h with h|⟨g,off,rfl,hg,hc⟩
 ·exact .inl h
 ·refine .inr⟨g,off,rfl,Nat.lt_of_lt_of_le hg b.size,fun j hj=>?_⟩;obtain⟨ty,u,hu⟩:=hc j hj;exact⟨ty,u,(b.cell(p:=⟨g,off+j,none⟩) hg).trans hu⟩
theorem uo (k n:Int)(ds:List Int):(aZ k n ds).1.length<=3+ds.length:=by
 have hi:∀ (P:Prop) [Decidable P](a b:List Int × Int),a.1.length<=3+ds.length->b.1.length<=3+ds.length->(if P then a else b).1.length<=3+ds.length:=by
  intro P _ a b ha hb;split
  ·exact ha
  ·exact hb
 unfold aZ
 repeat' apply hi
 all_goals(simp<;>omega)
theorem PKs.kp {rb mb:Nat}{w w':World}{ak:Option Addr}{ck n:Nat}(h:PKs w (.slice ak n ck) n)(K:Kp rb mb w w')(hg:0<n->∀ g off,ak=some ⟨g,off,none⟩->g≠rb/\g≠mb):PKs w' (.slice ak n ck) n:=by
 obtain⟨ak',ck',he,h⟩:=h;injection he with h1 h2 h3
 subst h1;subst h3;refine⟨ak,ck,rfl,?_⟩;rcases h with h|⟨g,off,rfl,hgl,hc⟩
 ·exact .inl h
 ·rcases Nat.eq_zero_or_pos n with h0|h0
  ·exact .inl h0
  ·obtain⟨g1,g2⟩:=hg h0 g off rfl;refine .inr⟨g,off,rfl,Nat.lt_of_lt_of_le hgl K.size,fun j hj=>?_⟩;obtain⟨ty,u,hu⟩:=hc j hj;exact⟨ty,u,(K.cell hgl g1 g2 _).trans hu⟩
theorem DG {w:World}{b:Nat}{a0 a1 a2:Value}{t:TypeId}(h:w.heap[b]?=some (.cells #[a0,a1,a2] t (0,0)))(v:Value):(w.setCell ⟨b,2,none⟩ v).heap[b]?=some (.cells #[a0,a1,v] t (0,0)) :=
 (Blk.set(o:=fun _=>0)(i:=0)⟨h,rfl⟩ 2 v).1
theorem xB:(Tryz.prog.info? 141).map (fun i=>(i.zero,i.size,i.bytes))=some (some .nilIface,1,16):=by kernel_rfl
theorem Kp.step {rb mb i:Nat}{a w w':World}{o o':Nat->Nat}(K:Kp rb mb a w)(s:aa (fun k=>k=i) w o w' o')(h:∀ k,k<a.heap.size->o k≠i):Kp rb mb a w' :=
 ⟨s.os.trans K.os,s.tape.trans K.tape,s.output.trans K.output,Nat.le_trans K.size s.size,fun k hk h1 h2=>(s.block k(by have:=K.size;omega)(h k hk)).trans(K.block k hk h1 h2)⟩
theorem Kp.toStep {rb mb:Nat}{w w':World}{o:Nat->Nat}(K:Kp rb mb w w')(h1:o rb=1)(h2:o mb=1):aa (fun k=>k=1) w o w' (ae w o 0) :=
 ⟨K.os,K.tape,K.output,K.size,fun k hk=>aC hk,fun k hk hn=>K.block k hk(fun e=>hn(by rw[e];exact h1))(fun e=>hn(by rw[e];exact h2))⟩
theorem Below.toStep {w w':World}{o:Nat->Nat}{I:Nat->Prop}(b:Below w.heap.size w w'):aa I w o w' (ae w o 0):=⟨b.os,b.tape,b.output,b.size,fun k hk=>aC hk,fun k hk _=>b.block k hk⟩
theorem RD.step {w w':World}{n0 rb mb c i:Nat}{bv:Value}{s:Rg}{o o':Nat->Nat}(h:RD w n0 rb mb bv c s)(st:aa (fun k=>k=i) w o w' o')(h1:o rb≠i)(h2:o mb≠i)(h3:∀ k,k<n0->o k≠i):RD w' n0 rb mb bv c s:=by
 refine⟨(st.block _(lt_of_block h.blk) h1).trans h.blk,?_,h.le,h.fit⟩;obtain⟨m,hm,hp⟩:=h.mp;exact⟨m,hm,hp.mono(st.block _ hp.lt h2)(fun k hk hl=>st.block k hl(h3 k hk)) st.size⟩
theorem qP {N:Nat}(IH:oQ N):oQ (N+1):=by
 intro e ao cap n0 rb mb bv cells ar wi s c w hN hf hwi har hcl hne hr0 hm0 hG hWd h hn S;obtain⟨k0,n,nm,a,f⟩:=e;simp only at hN S;have hin:=hn;obtain⟨aoc,capc,hbv,-⟩:=hin;subst hbv;have hlen:=hf.len;simp only at hlen;obtain⟨Z,hZ⟩:∃Z,Z=rgE cells⟨k0,n,nm,a,f⟩ ar wi s:=⟨_,rfl⟩
 rw[<-hZ];have HZ:Hid(Z=rgE cells⟨k0,n,nm,a,f⟩ ar wi s):=hZ;clear hZ;obtain⟨w0,hw0⟩:∃w0,w0=(w.alloc(.cells #[.int .i64 k0,.int .i64 n,stv nm,.slice ao f.len cap] 34)).alloc(.cells #[.int .i64(ar:Nat),.int .i64(wi:Nat)] 200):=⟨_,rfl⟩
 have B0:Below w.heap.size w w0:=by rw[hw0];exact((Below.refl _ w).alloc(Nat.le_refl _) _).alloc(by simp) _
 have E0:w0.heap[w.heap.size]?=some(.cells #[.int .i64 k0,.int .i64 n,stv nm,.slice ao f.len cap] 34):=by
  rw[hw0];exact(Below.heap_alloc _ _ _(by simp)).trans(heap_alloc_new w _)
 have T0:w0.heap[w.heap.size+1]?=some(.cells #[.int .i64(ar:Nat),.int .i64(wi:Nat)] 200):=by
  rw[hw0]
  have:=heap_alloc_new(w.alloc(.cells #[.int .i64 k0,.int .i64 n,stv nm,.slice ao f.len cap] 34))(.cells #[.int .i64(ar:Nat),.int .i64(wi:Nat)] 200)
  simpa using this
 have R0:=h.below B0;have hrl:=lt_of_block h.blk;have hml:=h.ltm;have KK:Kp rb mb w w0:=Kp.ofBelow B0;rw[ah];go_enter Tryz.func144,Tryz.ntmps144;go_upto_region 1 with fail;rw[<-hw0];obtain⟨bx,hbx⟩:∃bx,bx=w.heap.size:=⟨_,rfl⟩
 rw[<-hbx] at E0 T0 ⊢;have HBX:Hid(bx=w.heap.size):=hbx;have hb1:bx≠rb:=by omega
 have hb2:bx≠mb:=by omega
 have hs1:bx+1≠rb:=by omega
 have hs2:bx+1≠mb:=by omega
 have hn0w:n0<=w.heap.size:=by omega
 clear hbx hw0 hrl hml h;obtain⟨r0,r1,r2,rf⟩:=it R0.blk;have hs:=R0.le;have F1:=DG R0.blk(.int .i64((s.1:Int)+1));have K1:=KK.set⟨rb,2,none⟩(.int .i64((s.1:Int)+1))(.inr(.inl rfl));have E1:=(heap_setCell_other w0⟨rb,2,none⟩ bx(.int .i64((s.1:Int)+1)) hb1).trans E0;have T1:=(heap_setCell_other w0⟨rb,2,none⟩(bx+1)(.int .i64((s.1:Int)+1)) hs1).trans T0;have M1:∃m,m+c<=s.1/\MpN(w0.setCell⟨rb,2,none⟩(.int .i64((s.1:Int)+1)))(Lt0 n0) mb m s.2:=by
  obtain⟨m,hm,hp⟩:=R0.mp;exact⟨m,hm,hp.mono(heap_setCell_other w0 _ _ _(Ne.symm hne))(fun k hk hl=>heap_setCell_other w0 _ k _(by have hk:k<n0:=hk;show k≠rb;omega))(by simp)⟩
 have hfit:=R0.fit;clear B0 E0 T0 KK R0;go_upto_region 2 with fail;generalize w0.setCell⟨rb,2,none⟩(.int .i64((s.1:Int)+1))=w1 at *;clear r0 r1 r2 rf;obtain⟨r0,r1,r2,rf⟩:=it F1;obtain⟨p0,p1,p2,p3,pf⟩:=aI E1;obtain⟨t0,t1,tf⟩:=eY T1;have BAD:∀ {w2:World},Z=none->Below w1.heap.size w1 w2->Hid(iF w n0 rb mb(.slice aoc cells.length capc) c Z(.returned(.tuple #[.nilIface,.bool false])) w2):=by
  intro w2 hz b2;rw[hz];exact⟨⟨_,rfl,fun s k h=>(by cases h)⟩,fun s k h=>(by cases h),K1.trans(Kp.ofBelow b2)⟩
 by_cases hq1:4096<s.1+1
 ·have HR:=BAD(by rw[HZ.out];exact fL(fun hg=>hg(.inl hq1)))(Below.refl _ w1);have hI:(4096:Int)<(s.1:Int)+1:=by omega
  clear BAD HZ M1 E1 T1 F1 K1;go_wp2;exact bodyPost_ret(v:=.tuple #[.nilIface,.bool false])(by simp[results,Tryz.results144,go_sem]) rfl HR.out
 have hI:¬(4096:Int)<(s.1:Int)+1:=by omega
 by_cases hq2:4<wi
 ·have HR:=BAD(by rw[HZ.out];exact fL(fun hg=>hg(.inr(.inl hq2))))(Below.refl _ w1);have hJ:(4:Int)<(wi:Int):=by omega
  clear BAD HZ M1 E1 T1 F1 K1;go_wp2;exact bodyPost_ret(v:=.tuple #[.nilIface,.bool false])(by simp[results,Tryz.results144,go_sem]) rfl HR.out
 have hJ:¬(4:Int)<(wi:Int):=by omega
 have hWd1:Wd w1:=hWd.kp K1(by omega)(by omega);have c1:=pP⟨k0,n,nm,a,f⟩ ao cap w1 hWd1 hf.nm;rw[ah] at c1;simp only at c1;go_wp2_with fail;refine c1.mono ?_;rintro z w2⟨rfl,b2⟩;have F2:=(b2.block _(lt_of_block F1)).trans F1;have E2:=(b2.block _(lt_of_block E1)).trans E1;have T2:=(b2.block _(lt_of_block T1)).trans T1;cases hnmP:nmP k0 nm with
 | false =>
  have HR:=BAD(by rw[HZ.out];exact fL(fun hg=>hg(.inr(.inr(.inl hnmP))))) b2;clear c1 BAD HZ M1 E1 T1 F1 K1 p0 p1 p2 p3 pf t0 t1 tf r0 r1 r2 rf;obtain⟨p0,p1,p2,p3,pf⟩:=aI E2;obtain⟨t0,t1,tf⟩:=eY T2;clear E2 T2 F2;go_wp2;exact bodyPost_ret(v:=.tuple #[.nilIface,.bool false])(by simp[results,Tryz.results144,go_sem]) rfl HR.out
 | true =>
 have c2:=mI⟨k0,n,nm,a,f⟩ ao cap ar wi rb cells.length w2 aoc capc _ _ F2;rw[ah] at c2;simp only at c2;clear c1 p0 p1 p2 p3 pf t0 t1 tf r0 r1 r2 rf;obtain⟨p0,p1,p2,p3,pf⟩:=aI E2;obtain⟨t0,t1,tf⟩:=eY T2;go_wp2_with fail;refine c2.mono ?_;rintro z w3⟨rfl,b3⟩;have b13:Below w1.heap.size w1 w3:=b2.trans(b3.mono b2.size);have F3:=(b3.block _(lt_of_block F2)).trans F2;have E3:=(b3.block _(lt_of_block E2)).trans E2;have T3:=(b3.block _(lt_of_block T2)).trans T2;clear c2 p0 p1 p2 p3 pf t0 t1 tf F2 E2 T2;cases hnuP:nuP cells.length k0 n ar with
 | false =>
  have HR:=BAD(by rw[HZ.out];exact fL(fun hg=>hg(.inr(.inr(.inr hnuP))))) b13;obtain⟨p0,p1,p2,p3,pf⟩:=aI E3;obtain⟨t0,t1,tf⟩:=eY T3;clear BAD HZ M1 E1 T1 F1 K1 E3 T3 F3;go_wp2;exact bodyPost_ret(v:=.tuple #[.nilIface,.bool false])(by simp[results,Tryz.results144,go_sem]) rfl HR.out
 | true =>
 have hgd:gdE cells⟨k0,n,nm,a,f⟩ ar wi s:=by
  rintro(h|h|h|h)
  ·omega
  ·omega
  ·simp only at h;rw[hnmP] at h;cases h
  ·simp only at h;rw[hnuP] at h;cases h
 have HZ2:Hid(fT cells⟨k0,n,nm,a,f⟩ ar wi f 0(s.1+1,s.2) []=Z):=(HZ.out.trans(xg hgd)).symm;have K3:=K1.trans(Kp.ofBelow b13);have R3:RD w3 n0 rb mb(.slice aoc cells.length capc)(c+1)(s.1+1,s.2):=by
  refine⟨F3,?_,by show s.1+1<=4096;omega,hfit⟩;obtain⟨m,hm,hp⟩:=M1;exact⟨m,by show m+(c+1)<=s.1+1;omega,hp.mono(b13.block _ hp.lt)(fun k _ hl=>b13.block k hl) b13.size⟩
 have hnum:Hid(nuP cells.length k0 n ar=true):=hnuP;clear BAD HZ M1 E1 T1 F1 K1 F3 b2 b3 b13 hgd hnmP hnuP hWd1;obtain⟨o3,ho3⟩:∃o3:Nat->Nat,o3=fun k=>if k=rb\/k=mb then 1 else 0:=⟨_,rfl⟩
 have or3:o3 rb=1:=by rw[ho3];simp
 have om3:o3 mb=1:=by rw[ho3];simp
 have ol3:∀ k,k≠rb->k≠mb->o3 k=0:=fun k h1 h2=>by rw[ho3];simp[h1,h2]
 have ob3:∀ k,o3 k<=1:=fun k=>by rw[ho3];simp only;split<;>omega
 have BE3:Blk w3 o3 0 bx(.cells #[.int .i64 k0,.int .i64 n,stv nm,.slice ao f.len cap] 34(0,0)):=⟨E3,ol3 _ hb1 hb2⟩
 have BT3:Blk w3 o3 0(bx+1)(.cells #[.int .i64(ar:Nat),.int .i64(wi:Nat)] 200(0,0)):=⟨T3,ol3 _ hs1 hs2⟩
 have L3:Hid(∀ k,k<w.heap.size->o3 k<=1):=fun k _=>ob3 k;clear ho3 ol3 ob3 E3 T3;have hbig:f.len<=1000000000:=hlen;obtain⟨ip,hip,hzp0,hzp1,hzp2⟩:=aH xB;obtain⟨ii,hii,hzi0,hzi1,hzi2⟩:=aH ud;obtain⟨p0,p1,p2,p3,pf⟩:=aI BE3.1;go_wp2;go_loopw [8,9,47](fun v8 v9 v47 wr=>∃(d r:Fs)(o:Nat->Nat)(ps:List Value)(ds:List Int)(s1:Rg),Hid(f=d.app r)/\v47=.int .i64(d.len:Nat)/\Row wr o 2 141 1 v8 d.len ps/\Hid(∀ u,u ∈ ps->∃ty x,u=.iface ty x)/\Row wr o 3 3 1 v9 d.len(ds.map(Value.int .i64))/\ds.length=d.len/\d.len<=s1.1/\Hid d.nv/\RD wr n0 rb mb(.slice aoc cells.length capc)(c+1) s1/\o rb=1/\o mb=1/\Blk wr o 0 bx(.cells #[.int .i64 k0,.int .i64 n,stv nm,.slice ao f.len cap] 34(0,0))/\Blk wr o 0(bx+1)(.cells #[.int .i64(ar:Nat),.int .i64(wi:Nat)] 200(0,0))/\Hid(∀ k,k<w.heap.size->o k<=1)/\Kp rb mb w wr/\Hid(fT cells⟨k0,n,nm,a,f⟩ ar wi r d.len s1 ds=Z))(fun _ _ v47 _=>f.len-(intOf v47).toNat)
 case atStart=>exact⟨.nil,f,o3,[],[],_,rfl,by show _=Value.int .i64((0:Nat):Int);rfl,Row.nil _ _ _ _ _,fun u hu=>(by cases hu),Row.nil _ _ _ _ _,rfl,Nat.zero_le _,trivial,R3,or3,om3,BE3,BT3,L3,K3,HZ2.out⟩
 case round =>
  clear BE3 BT3 L3 R3 K3 HZ2 or3 om3 p0 p1 p2 p3 pf;obtain⟨d,r,o,ps,ds,s1,hk,rfl,R8,hps,R9,hdl,hds,hnv,RD1,or1,om1,BE1,BT1,L1,K1,HA⟩:=hrel;have hlk:f.len=d.len+r.len:=by rw[hk.out,Fs.len_app]
  obtain⟨p0,p1,p2,p3,pf⟩:=aI BE1.1;obtain⟨t0,t1,tf⟩:=eY BT1.1;cases r using Fs.on with
  | nil =>
   have hlt:¬(d.len:Int)<(f.len:Int):=by simp only[Fs.len] at hlk;omega
   have HA2:Hid(zg cells⟨k0,n,nm,a,f⟩ ar s1 ds=Z):=by show _=Z;rw[<-HA.out];exact wI.symm
   clear HA;have hfd:Hid(f=d):=by show f=d;rw[hk.out];exact jG d
   have hfl:Hid(d.len=f.len):=by show d.len=f.len;rw[hfd.out]
   have HDL:Hid(ds.length=d.len):=hdl;have hle:=RD1.le;have I9:=R9.inA hdl;have P8:=R8.pks hps.out;obtain⟨a9,c9,rfl⟩:=R9.form;obtain⟨a8,c8,rfl⟩:=R8.form;have HQ8:Hid(0<d.len->∀ g of,a8=some⟨g,of,none⟩->g≠rb/\g≠mb):=by
    intro hd g of ha;obtain⟨g',cap',he,ho,-⟩:=R8.pos hd;injection he with he
    rw[ha] at he;injection he with he
    injection he with he1 he2
    subst he1;exact⟨fun h=>(by rw[h,or1] at ho;cases ho),fun h=>(by rw[h,om1] at ho;cases ho)⟩
   have E1:=BE1.1;have T1:=BT1.1;have S1:SlN wr(Lt0 n0) f ao:=S.mono(fun i hp hl=>K1.block i hl(by have hp:i<n0:=hp;omega)(by have hp:i<n0:=hp;omega)) K1.size(fun _ h _=>h);have N1:Inw wr(Lt0 n0)(.slice aoc cells.length capc) cells:=hn.mono(fun i hp hl=>K1.block i hl(by have hp:i<n0:=hp;omega)(by have hp:i<n0:=hp;omega)) K1.size(fun _ h _=>h);have c1:=wT k0 n nm a f ao cap wr _ ds I9(by omega);rw[ah] at c1;simp only at c1;clear R8 R9 BE1 BT1 or1 om1 L1 hps hlk hdl;obtain⟨pp,hpp⟩:∃pp,pp=aZ k0 n ds:=⟨_,rfl⟩
   rw[<-hpp] at c1;have HP:Hid(pp=aZ k0 n ds):=hpp;clear hpp;obtain⟨xs,is⟩:=pp;go_wp2_with fail;refine c1.mono ?_;rintro z w2⟨lv,rfl,L2,b2⟩;simp only at L2;obtain⟨al,cl,hlv,hlx⟩:=L2;have L2:Inw w2(Nw wr.heap.size) lv xs:=⟨al,cl,hlv,hlx⟩
   subst hlv;clear hlx;have RDb1:rb<w2.heap.size:=Nat.lt_of_lt_of_le(lt_of_block RD1.blk) b2.size;have RDb2:mb<w2.heap.size:=Nat.lt_of_lt_of_le RD1.ltm b2.size;have b3:Below wr.heap.size wr(w2.alloc(.cells #[.slice al xs.length cl,.int .i64 is] 252)):=b2.alloc b2.size _;have b23:Below w2.heap.size w2(w2.alloc(.cells #[.slice al xs.length cl,.int .i64 is] 252)):=(Below.refl _ w2).alloc(Nat.le_refl _) _;have X3:(w2.alloc(.cells #[.slice al xs.length cl,.int .i64 is] 252)).heap[w2.heap.size]?=some(.cells #[.slice al xs.length cl,.int .i64 is] 252(0,0)):=heap_alloc_new w2 _;have L3:=L2.below b23;have I93:=I9.below b3;have P83:=P8.below b3;have E3:=(b3.block _(lt_of_block E1)).trans E1;have T3:=(b3.block _(lt_of_block T1)).trans T1;have RD3:=RD1.below b3;have S3:=S1.belowP b3;have N3:=N1.below b3;have K3:=K1.trans(Kp.ofBelow b3);clear c1 p0 p1 p2 p3 pf t0 t1 tf E1 T1 RD1 S1 N1 K1 I9 P8 L2 b2 b3 b23;go_upto_region 15 with fail;generalize w2.alloc(.cells #[.slice al xs.length cl,.int .i64 is] 252)=w3 at *;have hfb1:w2.heap.size≠rb:=by have:=RDb1;omega
   have hfb2:w2.heap.size≠mb:=by have:=RDb2;omega
   clear RDb1 RDb2;generalize w2.heap.size=fb at *;obtain⟨p0,p1,p2,p3,pf⟩:=aI E3;obtain⟨t0,t1,tf⟩:=eY T3;obtain⟨y0,y1,yf⟩:=eY X3;have HFIN:Hid(Z=if is=0\/xs≠ds then none else match(if k0=26 then cT cells n f ar s1 else some s1) with|none=>none|some s2=>some(s2,is)):=by
    show Z=_;rw[<-HA2.out];unfold zg;simp only;rw[<-HP.out]
   clear HA2;have BAD:∀ {w4:World},Z=none->Kp rb mb w3 w4->Hid(iF w n0 rb mb(.slice aoc cells.length capc) c Z(.returned(.tuple #[.nilIface,.bool false])) w4):=by
    intro w4 hz k4;rw[hz];exact⟨⟨_,rfl,fun s k h=>(by cases h)⟩,fun s k h=>(by cases h),K3.trans k4⟩
   have hxl:Hid(xs.length<=1000000000):=by
    show xs.length<=1000000000;have h1:=uo k0 n ds;rw[<-HP.out] at h1;have h2:=HDL.out;simp only at h1;omega
   by_cases his:is=0
   ·have hb0:(is==0)=true:=by simpa using his
    have HR:=BAD(by rw[HFIN.out,if_pos(.inl his)])(Kp.refl _ _ w3);clear BAD HFIN HP RD3 S3 N3 K3 I93 P83 L3 E3 T3 X3 his;go_wp2;exact bodyPost_ret(v:=.tuple #[.nilIface,.bool false])(by simp[results,Tryz.results144,go_sem]) rfl HR.out
   have hb0:(is==0)=false:=by simpa using his
   have c2:=xx w3 _ _ xs ds(L3.mono(fun _ _ _=>rfl)(Nat.le_refl _)(fun _ _ _=>trivial)) I93(hxl.out);obtain⟨sm,hsm⟩:∃sm,sm=decide(xs=ds):=⟨_,rfl⟩
   rw[<-hsm] at c2;have HSM:Hid(sm=decide(xs=ds)):=hsm;clear hsm;go_wp2_with fail;refine c2.mono ?_;rintro z w4⟨rfl,b4⟩;have E4:=(b4.block _(lt_of_block E3)).trans E3;have T4:=(b4.block _(lt_of_block T3)).trans T3;have X4:=(b4.block _(lt_of_block X3)).trans X3;have RD4:=RD3.below b4;have S4:=S3.belowP b4;have N4:=N3.below b4;have P84:=P83.below b4;have K4:=K3.trans(Kp.ofBelow b4);cases sm with
   | false =>
    have hxd:xs≠ds:=of_decide_eq_false HSM.out.symm;have HR:=BAD(by rw[HFIN.out,if_pos(.inr hxd)])(Kp.ofBelow b4);clear c2 BAD HFIN HP RD3 S3 N3 K3 I93 P83 L3 E3 T3 X3 his hxd p0 p1 p2 p3 pf t0 t1 tf y0 y1 yf E4 T4 X4 RD4 S4 N4 P84 K4 b4 HSM;go_wp2;exact bodyPost_ret(v:=.tuple #[.nilIface,.bool false])(by simp[results,Tryz.results144,go_sem]) rfl HR.out
   | true =>
   have hxd:xs=ds:=of_decide_eq_true HSM.out.symm;have HFIN2:Hid(Z=match(if k0=26 then cT cells n f ar s1 else some s1) with|none=>none|some s2=>some(s2,is)):=by show Z=_;rw[HFIN.out,if_neg(by rintro(h|h);exact his h;exact h hxd)]
   have hnk:Hid((k0=17\/k0=18\/k0=21->d.len=2)/\(k0=19->d.len=3)/\(k0=24\/k0=26->d.len=1)):=by
    have hx:d.len=(aZ k0 n ds).1.length:=by rw[<-HP.out];show d.len=xs.length;rw[hxd,HDL.out]
    refine⟨?_,?_,?_⟩
    ·rintro(rfl|rfl|rfl)
     ·rw[hx];rfl
     ·rw[hx];rfl
     ·rw[hx,mj];unfold qfP;split
      ·rfl
      ·split<;>rfl
    ·rintro rfl;rw[hx];rfl
    ·rintro(rfl|rfl)
     ·rw[hx];rfl
     ·rw[hx];rfl
   have LAID:∀ w5,PKs w5(.slice a8 d.len c8) d.len->Calls Tryz.prog 220 #[.agg #[.int .i64 k0,.int .i64 n,stv nm,.slice ao f.len cap],.agg #[.int .i64 is],.slice a8 d.len c8,.int .i64(ar:Nat)] w5 fun x w'=>(∃v,x=.returned v/\f9 v is)/\Below w5.heap.size w5 w':=fun w5 hp=>BT k0 n nm f ao cap is _ d.len ar w5 hp hnk.out.1 hnk.out.2.1 hnk.out.2.2;clear c2 BAD HFIN HP RD3 S3 N3 K3 I93 P83 L3 E3 T3 X3 his hxd p0 p1 p2 p3 pf t0 t1 tf y0 y1 yf b4 HSM;obtain⟨p0,p1,p2,p3,pf⟩:=aI E4;obtain⟨t0,t1,tf⟩:=eY T4;obtain⟨y0,y1,yf⟩:=eY X4;by_cases h26:k0=26
   ·subst h26;have hd1:=hnk.out.2.2(.inr rfl);obtain⟨x,hx⟩:=qX(hfl.out.symm.trans hd1);have hnu:=hnum.out;have hin:0<=n/\n<(cells.length:Int):=by simp[nuP] at hnu;omega
    obtain⟨i,rfl⟩:∃i:Nat,n=(i:Nat):=⟨n.toNat,by omega⟩
    have hxnv:x.nv:=by
     have:=hnv.out
     rw[<-hfd.out,hx] at this;exact⟨this.1,this.2.1⟩
    have hfx:cr x:=cr.kid(e:=⟨26,(i:Nat),nm,a,f⟩)(d:=.nil) hf hx;have S4x:SlN w4(Lt0 n0)(Fs.ex x .nil) ao:=by rw[<-hx];exact S4
    have c3:=AJ 26 i nm x ao cap n0 rb mb _ cells ar wi s1 w4(by omega) hcl hfx hxnv(by omega)(by omega) hne hm0 c RD4 N4 S4x;have hl1:f.len=1:=by rw[hx];rfl
    have hk26:Hid(Z=match cT cells(i:Nat)(Fs.ex x .nil) ar s1 with|none=>none|some s2=>some(s2,is)):=by show Z=_;rw[HFIN2.out,if_pos rfl,hx]
    rw[<-hl1] at c3;generalize cT cells(i:Nat)(Fs.ex x .nil) ar s1=R at *;have HD1:Hid(d.len=1):=hd1;clear HFIN2 S4 N4 S4x hxnv hfx hnu hin hl1 hx hd1 hnum hfd;go_wp2_with fail;refine c3.mono ?_;rintro z w5⟨rfl,hR5,K5⟩;have KW5:=K4.trans K5;have P85:=P84.kp K5 HQ8.out;have E5:=(K5.block _(lt_of_block E4) hb1 hb2).trans E4;have T5:=(K5.block _(lt_of_block T4) hs1 hs2).trans T4;have X5:=(K5.block _(lt_of_block X4) hfb1 hfb2).trans X4;clear c3 K4 K5 P84 E4 T4 X4 RD4 p0 p1 p2 p3 pf t0 t1 tf y0 y1 yf;obtain⟨p0,p1,p2,p3,pf⟩:=aI E5;obtain⟨t0,t1,tf⟩:=eY T5;obtain⟨y0,y1,yf⟩:=eY X5;cases R with
    | none =>
     have HR:Hid(iF w n0 rb mb(.slice aoc cells.length capc) c Z(.returned(.tuple #[.nilIface,.bool false])) w5):=by
      have hz:Z=none:=hk26.out;rw[hz];exact⟨⟨_,rfl,fun s k h=>(by cases h)⟩,fun s k h=>(by cases h),KW5⟩
     clear hk26 LAID hR5 KW5 P85 E5 T5 X5 hnk;simp only[Option.isSome_none];go_wp2;exact bodyPost_ret(v:=.tuple #[.nilIface,.bool false])(by simp[results,Tryz.results144,go_sem]) rfl HR.out
    | some s2 =>
     have RD5:=hR5 s2 rfl;have HFIN3:Hid(Z=some(s2,is)):=hk26.out;have c4:=LAID w5 P85;clear hk26 LAID hR5 hnk;simp only[Option.isSome_some];go_wp2_with fail;refine c4.mono ?_;rintro z w6⟨⟨v,rfl,hv⟩,b6⟩;have HR:Hid(iF w n0 rb mb(.slice aoc cells.length capc) c Z(.returned(.tuple #[v,.bool true])) w6):=by
      rw[HFIN3.out];refine⟨⟨v,rfl,fun s k h=>?_⟩,fun s k h=>?_,KW5.trans(Kp.ofBelow b6)⟩
      ·injection h with h
       injection h with h1 h2
       rw[<-h2];exact hv
      ·injection h with h
       injection h with h1 h2
       rw[<-h1];exact RD5.below b6
     clear c4 HFIN3 hv b6 RD5 KW5 P85 E5 T5 X5 p0 p1 p2 p3 pf t0 t1 tf y0 y1 yf;go_wp2;exact bodyPost_ret(v:=.tuple #[v,.bool true])(by simp[results,Tryz.results144,go_sem]) rfl HR.out
   ·have hb26:(k0==26)=false:=by simpa using h26
    have HFIN3:Hid(Z=some(s1,is)):=by show Z=_;rw[HFIN2.out,if_neg h26]
    have c3:=LAID w4 P84;clear HFIN2 LAID h26 hnk S4 N4;go_wp2_with fail;refine c3.mono ?_;rintro z w5⟨⟨v,rfl,hv⟩,b5⟩;have HR:Hid(iF w n0 rb mb(.slice aoc cells.length capc) c Z(.returned(.tuple #[v,.bool true])) w5):=by
     rw[HFIN3.out];refine⟨⟨v,rfl,fun s k h=>?_⟩,fun s k h=>?_,K4.trans(Kp.ofBelow b5)⟩
     ·injection h with h
      injection h with h1 h2
      rw[<-h2];exact hv
     ·injection h with h
      injection h with h1 h2
      rw[<-h1];exact(RD4.below b5).less
    clear c3 HFIN3 hv b5 RD4 K4 P84 E4 T4 X4 p0 p1 p2 p3 pf t0 t1 tf y0 y1 yf;go_wp2;exact bodyPost_ret(v:=.tuple #[v,.bool true])(by simp[results,Tryz.results144,go_sem]) rfl HR.out
  | cons kk kn km ka kks kr =>
   have hlt:(d.len:Int)<(f.len:Int):=by simp only[Fs.len] at hlk;omega
   have hl3:d.len<f.len:=by omega
   have hsz:f.size=d.size+(kks.size+kr.size+1):=by rw[hk.out,Fs.size_app];rfl
   have hfk:cr⟨kk,kn,km,ka,kks⟩:=hf.kid(d:=d)(r:=kr) hk.out;have S1:SlN wr(Lt0 n0) f ao:=S.mono(fun i hp hl=>K1.block i hl(by have hp:i<n0:=hp;omega)(by have hp:i<n0:=hp;omega)) K1.size(fun _ h _=>h);have N1:Inw wr(Lt0 n0)(.slice aoc cells.length capc) cells:=hn.mono(fun i hp hl=>K1.block i hl(by have hp:i<n0:=hp;omega)(by have hp:i<n0:=hp;omega)) K1.size(fun _ h _=>h);have hWd1:Wd wr:=hWd.kp K1(by omega)(by omega);obtain⟨b,off,ak,ck,hao,lb1,-,x0,x1,x2,x3,SK⟩:=SlN.kidQ(by rw[<-hk.out];exact S1);subst hao;have hk2:Hid(f=(d.snoc⟨kk,kn,km,ka,kks⟩).app kr):=by show f=_;rw[hk.out];unfold Fs.snoc;rw[Fs.app_assoc];rfl
   have hl2:(d.len:Int)+1=((d.snoc⟨kk,kn,km,ka,kks⟩).len:Nat):=by rw[Fs.len_snoc];rfl
   have HA2:Hid((match rgE cells⟨kk,kn,km,ka,kks⟩(aL k0 d.len ar wi).1(aL k0 d.len ar wi).2 s1 with|none=>none|some(s2,k)=>fT cells⟨k0,n,nm,a,f⟩ ar wi kr(d.len+1) s2(ds++[k]))=Z):=by show _=Z;rw[<-HA.out];exact(uk(e:=⟨k0,n,nm,a,f⟩)(x:=⟨kk,kn,km,ka,kks⟩)).symm
   have hsp1:(aL k0 d.len ar wi).2<=5/\(aL k0 d.len ar wi).1<=(aL k0 d.len ar wi).2:=by
    unfold aL;split
    ·simp only;split<;>omega
    ·simp only;omega
   -- the kid's box
   have s2:=aO(fun _=>False) wr o(.cells #[.int .i64 kk,.int .i64 kn,stv km,.slice ak kks.len ck] 34);have b2:Below wr.heap.size wr(wr.alloc(.cells #[.int .i64 kk,.int .i64 kn,stv km,.slice ak kks.len ck] 34)):=(Below.refl _ wr).alloc(Nat.le_refl _) _;have X2:(wr.alloc(.cells #[.int .i64 kk,.int .i64 kn,stv km,.slice ak kks.len ck] 34)).heap[wr.heap.size]?=some(.cells #[.int .i64 kk,.int .i64 kn,stv km,.slice ak kks.len ck] 34):=heap_alloc_new wr _;have RD2:=RD1.below b2;have R82:=R8.step s2 id;have R92:=R9.step s2 id;have BE2:=BE1.step s2 id;have BT2:=BT1.step s2 id;have hrw:rb<wr.heap.size:=lt_of_block RD1.blk;have hmw:mb<wr.heap.size:=RD1.ltm;have or2:ae wr o 0 rb=1:=(aC hrw).trans or1;have om2:ae wr o 0 mb=1:=(aC hmw).trans om1;have L2:Hid(∀ k,k<w.heap.size->ae wr o 0 k<=1):=fun k hk=>by rw[aC(by have:=K1.size;omega)];exact L1.out k hk
   have K2:=K1.trans(Kp.ofBelow b2);have N2:=N1.below b2;have SK2:=SK.belowP b2;have hWd2:=hWd1.below b2;obtain⟨xb,hxb⟩:∃xb,xb=wr.heap.size:=⟨_,rfl⟩
   have hx1:xb≠rb:=by omega
   have hx2:xb≠mb:=by omega
   clear HA R8 R9 BE1 BT1 or1 om1 L1 K1 RD1 S1 N1 SK hWd1 s2 hk p0 p1 p2 p3 pf t0 t1 tf;go_upto_region 9 with fail;generalize ae wr o 0=o2 at *;generalize wr.alloc(.cells #[.int .i64 kk,.int .i64 kn,stv km,.slice ak kks.len ck] 34)=w2 at *;rw[<-hxb] at X2 ⊢;clear hxb b2 x0 x1 x2 x3;obtain⟨p0,p1,p2,p3,pf⟩:=aI BE2.1;obtain⟨t0,t1,tf⟩:=eY BT2.1;obtain⟨z0,z1,z2,z3,zf⟩:=aI X2;have hbl:=BE2.lt;have htl:=BT2.lt;have hxl:=lt_of_block X2;have bdT:Below w2.heap.size w2 w2.drew:=⟨rfl,rfl,rfl,Nat.le_refl _,fun _ _=>rfl⟩
   have c9:=Av⟨k0,n,nm,a,f⟩(some⟨b,off,none⟩) cap ar wi d.len w2.drew(by omega)(by omega)(by omega);rw[ah] at c9;simp only at c9;have hrk:=fun k2(h:∃s2,rgE cells⟨kk,kn,km,ka,kks⟩(aL k0 d.len ar wi).1(aL k0 d.len ar wi).2 s1=some(s2,k2))=>h;clear hrk;have hcnt:Hid(∀ s2 k,rgE cells⟨kk,kn,km,ka,kks⟩(aL k0 d.len ar wi).1(aL k0 d.len ar wi).2 s1=some(s2,k)->s1.1+1<=s2.1/\(d.snoc⟨kk,kn,km,ka,kks⟩).nv):=fun s2 k h=>⟨AY h,Fs.snoc_nv hnv.out(yA h)⟩;have c10:=fun(w3:World)(b3:Below w2.drew.heap.size w2.drew w3)=>IH⟨kk,kn,km,ka,kks⟩ ak ck n0 rb mb(.slice aoc cells.length capc) cells(aL k0 d.len ar wi).1(aL k0 d.len ar wi).2 s1(c+1) w3(by show kks.size<N;omega) hfk hsp1.1 hsp1.2 hcl hne hr0 hm0 hG((hWd2.below bdT).below b3)((RD2.below bdT).below b3)((N2.below bdT).below b3)((SK2.belowP bdT).belowP b3);simp only[ah] at c10;generalize rgE cells⟨kk,kn,km,ka,kks⟩(aL k0 d.len ar wi).1(aL k0 d.len ar wi).2 s1=rr at *;generalize(aL k0 d.len ar wi).1=sA at *;generalize(aL k0 d.len ar wi).2=sB at *;clear hWd2 N2 SK2 hsz hfk hsp1 hlk;go_upto_region 9 with fail;go_cut [12,13](fun v12 v13 wx=>∃v,v12=v/\v13=.bool rr.isSome/\(∀ s k,rr=some(s,k)->f9 v k)/\(∀ s k,rr=some(s,k)->RD wx n0 rb mb(.slice aoc cells.length capc)(c+1) s)/\Kp rb mb w2 wx)
   case first =>
    go_wp2_with fail;go_region_held3(fun wx=>wx.cell?⟨bx,0,none⟩=some(.int .i64 k0)/\wx.cell?⟨bx,1,none⟩=some(.int .i64 n)/\wx.cell?⟨bx,2,none⟩=some(stv nm)/\wx.cell?⟨bx,3,none⟩=some(.slice(some⟨b,off,none⟩) f.len cap)/\wx.cell?⟨bx+1,0,none⟩=some(.int .i64(ar:Nat))/\wx.cell?⟨bx+1,1,none⟩=some(.int .i64(wi:Nat))/\wx.cell?⟨xb,0,none⟩=some(.int .i64 kk)/\wx.cell?⟨xb,1,none⟩=some(.int .i64 kn)/\wx.cell?⟨xb,2,none⟩=some(stv km)/\wx.cell?⟨xb,3,none⟩=some(.slice ak kks.len ck))
     (first|exact KA|go_keep)
     (first
      | (go_at_call 216;refine c9.mono ?_;rintro z w3⟨rfl,B3⟩;have KA:w3.cell?⟨bx,0,none⟩=some(.int .i64 k0)/\w3.cell?⟨bx,1,none⟩=some(.int .i64 n)/\w3.cell?⟨bx,2,none⟩=some(stv nm)/\w3.cell?⟨bx,3,none⟩=some(.slice(some⟨b,off,none⟩) f.len cap)/\w3.cell?⟨bx+1,0,none⟩=some(.int .i64(ar:Nat))/\w3.cell?⟨bx+1,1,none⟩=some(.int .i64(wi:Nat))/\w3.cell?⟨xb,0,none⟩=some(.int .i64 kk)/\w3.cell?⟨xb,1,none⟩=some(.int .i64 kn)/\w3.cell?⟨xb,2,none⟩=some(stv km)/\w3.cell?⟨xb,3,none⟩=some(.slice ak kks.len ck):=⟨(B3.cell(p:=⟨bx,0,none⟩) hbl).trans p0,(B3.cell(p:=⟨bx,1,none⟩) hbl).trans p1,(B3.cell(p:=⟨bx,2,none⟩) hbl).trans p2,(B3.cell(p:=⟨bx,3,none⟩) hbl).trans p3,(B3.cell(p:=⟨bx+1,0,none⟩) htl).trans t0,(B3.cell(p:=⟨bx+1,1,none⟩) htl).trans t1,(B3.cell(p:=⟨xb,0,none⟩) hxl).trans z0,(B3.cell(p:=⟨xb,1,none⟩) hxl).trans z1,(B3.cell(p:=⟨xb,2,none⟩) hxl).trans z2,(B3.cell(p:=⟨xb,3,none⟩) hxl).trans z3⟩)
      | (go_at_call 144;refine(c10 _ B3).mono ?_;rintro z w4⟨⟨v,rfl,hv⟩,hR4,K4⟩;have KA4:w4.cell?⟨bx,0,none⟩=some(.int .i64 k0)/\w4.cell?⟨bx,1,none⟩=some(.int .i64 n)/\w4.cell?⟨bx,2,none⟩=some(stv nm)/\w4.cell?⟨bx,3,none⟩=some(.slice(some⟨b,off,none⟩) f.len cap)/\w4.cell?⟨bx+1,0,none⟩=some(.int .i64(ar:Nat))/\w4.cell?⟨bx+1,1,none⟩=some(.int .i64(wi:Nat))/\w4.cell?⟨xb,0,none⟩=some(.int .i64 kk)/\w4.cell?⟨xb,1,none⟩=some(.int .i64 kn)/\w4.cell?⟨xb,2,none⟩=some(stv km)/\w4.cell?⟨xb,3,none⟩=some(.slice ak kks.len ck):=⟨(K4.cell(Nat.lt_of_lt_of_le hbl B3.size) hb1 hb2 _).trans KA.1,(K4.cell(Nat.lt_of_lt_of_le hbl B3.size) hb1 hb2 _).trans KA.2.1,(K4.cell(Nat.lt_of_lt_of_le hbl B3.size) hb1 hb2 _).trans KA.2.2.1,(K4.cell(Nat.lt_of_lt_of_le hbl B3.size) hb1 hb2 _).trans KA.2.2.2.1,(K4.cell(Nat.lt_of_lt_of_le htl B3.size) hs1 hs2 _).trans KA.2.2.2.2.1,(K4.cell(Nat.lt_of_lt_of_le htl B3.size) hs1 hs2 _).trans KA.2.2.2.2.2.1,(K4.cell(Nat.lt_of_lt_of_le hxl B3.size) hx1 hx2 _).trans KA.2.2.2.2.2.2.1,(K4.cell(Nat.lt_of_lt_of_le hxl B3.size) hx1 hx2 _).trans KA.2.2.2.2.2.2.2.1,(K4.cell(Nat.lt_of_lt_of_le hxl B3.size) hx1 hx2 _).trans KA.2.2.2.2.2.2.2.2.1,(K4.cell(Nat.lt_of_lt_of_le hxl B3.size) hx1 hx2 _).trans KA.2.2.2.2.2.2.2.2.2⟩;have KA:=KA4))
    have HM:Hid(Kp rb mb w2 w4):=(Kp.ofBelow(bdT.trans B3)).trans K4;clear KA KA4 c9 c10;go_wp2;go_meet;exact⟨v,rfl,rfl,hv,hR4,HM.out⟩
   case rest =>
    obtain⟨v,rfl,rfl,hv,hR4,K4⟩:=hcut;have KW4:=K2.trans K4;clear c9 c10 p0 p1 p2 p3 pf t0 t1 tf z0 z1 z2 z3 zf;cases hrr:rr with
    | none =>
     have HR:Hid(iF w n0 rb mb(.slice aoc cells.length capc) c Z(.returned(.tuple #[.nilIface,.bool false])) wc):=by
      have hz:Z=none:=by rw[<-HA2.out,hrr]
      rw[hz];exact⟨⟨_,rfl,fun s k h=>(by cases h)⟩,fun s k h=>(by cases h),KW4⟩
     clear HA2 hv hR4 K4 KW4 hcnt R82 R92 BE2 BT2 L2 RD2 X2;simp only[Option.isSome_none];go_wp2;exact bodyPost_ret(v:=.tuple #[.nilIface,.bool false])(by simp[results,Tryz.results144,go_sem]) rfl HR.out
    | some zz =>
     obtain⟨s2,k⟩:=zz;have hct:=(hcnt.out s2 k hrr).1;have hnv2:Hid(d.snoc⟨kk,kn,km,ka,kks⟩).nv:=(hcnt.out s2 k hrr).2;obtain⟨ty,vx,rfl,he⟩:=hv s2 k hrr;have RD4:=hR4 s2 k hrr;have HA3:Hid(fT cells⟨k0,n,nm,a,f⟩ ar wi kr(d.len+1) s2(ds++[k])=Z):=by show _=Z;rw[<-HA2.out,hrr]
     have s4:=K4.toStep or2 om2;have hrw2:rb<w2.heap.size:=lt_of_block RD2.blk;have hmw2:mb<w2.heap.size:=RD2.ltm;have R84:=R82.step s4(by decide);have R94:=R92.step s4(by decide);have BE4:=BE2.step s4(by decide);have BT4:=BT2.step s4(by decide);have or4:ae w2 o2 0 rb=1:=(aC hrw2).trans or2;have om4:ae w2 o2 0 mb=1:=(aC hmw2).trans om2;have L4:Hid(∀ k,k<w.heap.size->ae w2 o2 0 k<=1):=fun k hk=>by rw[aC(by have:=K2.size;omega)];exact L2.out k hk
     simp only[Option.isSome_some];clear HA2 hv hR4 K4 hcnt R82 R92 BE2 BT2 L2 RD2 X2 hrr s4 K2 or2 om2 bdT;generalize ae w2 o2 0=o4 at *
     -- the part goes behind the others
     have s5:=aO(fun _=>False) wc o4(.cells #[.iface ty vx] 141);have b5:Below wc.heap.size wc(wc.alloc(.cells #[.iface ty vx] 141)):=(Below.refl _ wc).alloc(Nat.le_refl _) _;have R85:=R84.step s5 id;have R95:=R94.step s5 id;have BE5:=BE4.step s5 id;have BT5:=BT4.step s5 id;have RD5:=RD4.below b5;have hrwc:rb<wc.heap.size:=lt_of_block RD4.blk;have hmwc:mb<wc.heap.size:=RD4.ltm;have or5:ae wc o4 0 rb=1:=(aC hrwc).trans or4;have om5:ae wc o4 0 mb=1:=(aC hmwc).trans om4;have L5:Hid(∀ k,k<w.heap.size->ae wc o4 0 k<=1):=fun k hk=>by rw[aC(by have:=KW4.size;omega)];exact L4.out k hk
     have KW5:=KW4.trans(Kp.ofBelow b5);have hone:∀ u ∈ [Value.iface ty vx],u.oneCell'=true:=by intro u hu;simp at hu;subst hu;rfl
     have q1:d.len+1<=maxLen:=by unfold maxLen;omega
     have q2:(d.len+1)*16<=140737488355328:=by omega
     clear R84 R94 BE4 BT4 RD4 or4 om4 L4 KW4 s5 b5;go_wp2_with(first|(at_builtin;refine aB rfl(.tmp 64)(.tmp 66) 249 rfl 141 ip .nilIface 1 16 Tryz.underlying249 hip hzp0 hzp1 hzp2 rfl(by decide)(ae wc o4 0) 2 _ d.len ps rfl R85⟨wc.heap.size,0,none⟩ 1 1 [.iface ty vx] rfl rfl(cJ wc _ _) hone(by decide) q1 q2 ?_)|go_in);intro g8 c8 w6 o6 R86 s6;have hz5:(wc.alloc(.cells #[.iface ty vx] 141)).heap.size=wc.heap.size+1:=by simp
     have hne2:∀ k,k<w.heap.size->ae wc o4 0 k≠2:=fun k hk=>by have:=L5.out k hk;omega
     have R96:=R95.step s6(by decide);have BE6:=BE5.step s6(by decide);have BT6:=BT5.step s6(by decide);have RD6:=RD5.step s6(by rw[or5];decide)(by rw[om5];decide)(fun k hk=>hne2 k(by omega));have or6:o6 rb=1:=(s6.lab rb(by omega)).trans or5;have om6:o6 mb=1:=(s6.lab mb(by omega)).trans om5;have L6:Hid(∀ k,k<w.heap.size->o6 k<=1):=fun k hk=>by rw[s6.lab k(by have:=KW5.size;omega)];exact L5.out k hk
     have KW6:=KW5.step s6 hne2;clear R85 R95 BE5 BT5 RD5 or5 om5 L5 KW5 s6 hne2 hz5 hone q2 hrwc hmwc;generalize ae wc o4 0=o5 at *;have c11:=fun w=>qG k w;go_wp2_with fail;refine(c11 _).mono ?_;rintro z w7⟨rfl,b7⟩;have s7:=Below.toStep(I:=fun _=>False)(o:=o6) b7;have R87:=R86.step s7 id;have R97:=R96.step s7 id;have BE7:=BE6.step s7 id;have BT7:=BT6.step s7 id;have RD7:=RD6.below b7;have hrw6:rb<w6.heap.size:=lt_of_block RD6.blk;have hmw6:mb<w6.heap.size:=RD6.ltm;have or7:ae w6 o6 0 rb=1:=(aC hrw6).trans or6;have om7:ae w6 o6 0 mb=1:=(aC hmw6).trans om6;have L7:Hid(∀ k,k<w.heap.size->ae w6 o6 0 k<=1):=fun k hk=>by rw[aC(by have:=KW6.size;omega)];exact L6.out k hk
     have KW7:=KW6.trans(Kp.ofBelow b7);clear R86 R96 BE6 BT6 RD6 or6 om6 L6 KW6 s7 b7 c11 he hrw6 hmw6;generalize ae w6 o6 0=o7 at *;have s8:=aO(fun _=>False) w7 o7(.cells #[.int .i64 k] 3);have b8:Below w7.heap.size w7(w7.alloc(.cells #[.int .i64 k] 3)):=(Below.refl _ w7).alloc(Nat.le_refl _) _;have R88:=R87.step s8 id;have R98:=R97.step s8 id;have BE8:=BE7.step s8 id;have BT8:=BT7.step s8 id;have RD8:=RD7.below b8;have hrw7:rb<w7.heap.size:=lt_of_block RD7.blk;have hmw7:mb<w7.heap.size:=RD7.ltm;have or8:ae w7 o7 0 rb=1:=(aC hrw7).trans or7;have om8:ae w7 o7 0 mb=1:=(aC hmw7).trans om7;have L8:Hid(∀ k,k<w.heap.size->ae w7 o7 0 k<=1):=fun k hk=>by rw[aC(by have:=KW7.size;omega)];exact L7.out k hk
     have KW8:=KW7.trans(Kp.ofBelow b8);have hone:∀ u ∈ [Value.int .i64 k],u.oneCell'=true:=by intro u hu;simp at hu;subst hu;rfl
     have q2:(d.len+1)*8<=140737488355328:=by omega
     have hz8:(w7.alloc(.cells #[.int .i64 k] 3)).heap.size=w7.heap.size+1:=by simp
     clear R87 R97 BE7 BT7 RD7 or7 om7 L7 KW7 s8 b8;go_wp2_with(first|(at_builtin;refine aB rfl(.tmp 68)(.tmp 71) 35 rfl 3 ii(.int .i64 0) 1 8 Tryz.underlying35 hii hzi0 hzi1 hzi2 rfl(by decide)(ae w7 o7 0) 3 _ d.len(ds.map(Value.int .i64)) rfl R98⟨w7.heap.size,0,none⟩ 1 1 [.int .i64 k] rfl rfl(cJ w7 _ _) hone(by decide) q1 q2 ?_)|go_in);intro g9 c9 w9 o9 R99 s9;have hne3:∀ k,k<w.heap.size->ae w7 o7 0 k≠3:=fun k hk=>by have:=L8.out k hk;omega
     have R89:=R88.step s9(by decide);have BE9:=BE8.step s9(by decide);have BT9:=BT8.step s9(by decide);have RD9:=RD8.step s9(by rw[or8];decide)(by rw[om8];decide)(fun k hk=>hne3 k(by omega));have or9:o9 rb=1:=(s9.lab rb(by omega)).trans or8;have om9:o9 mb=1:=(s9.lab mb(by omega)).trans om8;have L9:Hid(∀ k,k<w.heap.size->o9 k<=1):=fun k hk=>by rw[s9.lab k(by have:=KW8.size;omega)];exact L8.out k hk
     have KW9:=KW8.step s9 hne3;have hps2:Hid(∀ u,u ∈ ps++[Value.iface ty vx]->∃ty x,u=.iface ty x):=by
      intro u hu;rcases List.mem_append.1 hu with h|h
      ·exact hps.out u h
      ·simp at h;exact⟨ty,vx,h⟩
     have hls:(d.snoc⟨kk,kn,km,ka,kks⟩).len=d.len+1:=Fs.len_snoc _ _;have R99b:Row w9 o9 3 3 1(.slice(some⟨g9,0,none⟩)(d.len+1) c9)(d.snoc⟨kk,kn,km,ka,kks⟩).len((ds++[k]).map(Value.int .i64)):=by rw[hls,List.map_append];exact R99
     have R89b:Row w9 o9 2 141 1(.slice(some⟨g8,0,none⟩)(d.len+1) c8)(d.snoc⟨kk,kn,km,ka,kks⟩).len(ps++[.iface ty vx]):=by rw[hls];exact R89
     have hdl2:(ds++[k]).length=(d.snoc⟨kk,kn,km,ka,kks⟩).len:=by rw[hls];simp[hdl]
     have hds2:(d.snoc⟨kk,kn,km,ka,kks⟩).len<=s2.1:=by rw[hls];omega
     have HA4:Hid(fT cells⟨k0,n,nm,a,f⟩ ar wi kr(d.snoc⟨kk,kn,km,ka,kks⟩).len s2(ds++[k])=Z):=by rw[hls];exact HA3
     clear R88 R98 BE8 BT8 RD8 or8 om8 L8 KW8 s9 hne3 hz8 hone R99 R89 HA3 hps hls;go_wp2;go_roundw
     case rel=>exact⟨_,kr,o9,_,_,s2,hk2,by rw[<-hl2],R89b,hps2,R99b,hdl2,hds2,hnv2,RD9,or9,om9,BE9,BT9,L9,KW9,HA4⟩
     case measure=>simp[intOf];omega
theorem pm:∀ N,oQ N -- 144
 | 0=>fun e ao cap n0 rb mb bv cells ar wi s c w h=>absurd h(Nat.not_lt_zero _)
 | N+1=>qP(pm N)
theorem jP {cells:List Int}{e:Ex}(h:bO cells e≠0):cells.length<=256/\(∀ c,c ∈ cells->0<=c/\c<=4)/\∃s,rgE cells e 0 0 (0,fun _=>none)=some (s,bO cells e)/\bO cells e≠4:=by
 have h0:=h;unfold bO at h ⊢;split at h
 ·exact absurd rfl h
 ·rename_i h1
  rw[if_neg h1];have h2:rgF cells(one e) 0 0 0 0(0,fun _=>none)=_:=eI cells e .nil 0 0 0 0(0,fun _=>none);have hsp:aL 0 0 0 0=(0,0):=rfl;rw[hsp] at h2;simp only at h2;refine⟨by omega,?_,?_⟩
  ·intro c hc;have h3:¬(cells.any(fun c=>decide(c<0)||decide(4<c))=true):=fun h=>h1(.inr h);simp only[List.any_eq_true,not_exists,not_and,Bool.or_eq_true,decide_eq_true_eq] at h3
   have:=h3 c hc
   omega
  ·cases hx:rgE cells e 0 0(0,fun _=>none) with
   | none=>rw[h2,hx] at h;exact absurd rfl h
   | some z =>
    obtain⟨s,k⟩:=z;rw[h2,hx] at h ⊢;simp only[rgF] at h ⊢;by_cases h4:k=4
    ·rw[if_pos h4] at h;exact absurd rfl h
    ·rw[if_neg h4];exact⟨s,rfl,h4⟩
theorem m9 {cells:List Int}{e:Ex}(h1:cells.length<=256)(h2:∀ c,c ∈ cells->0<=c/\c<=4):bO cells e=(match cP cells e 0 0 (0,fun _=>none) with|none=>0|some (_,k)=>k):=by
 unfold bO;have h3:¬(256<cells.length\/cells.any(fun c=>decide(c<0)||decide(4<c))=true):=by
  rintro(h|h)
  ·omega
  ·simp only[List.any_eq_true,Bool.or_eq_true,decide_eq_true_eq] at h;obtain⟨c,hc,h⟩:=h
   have:=h2 c hc
   omega
 rw[if_neg h3];have h4:rgF cells(one e) 0 0 0 0(0,fun _=>none)=_:=eI cells e .nil 0 0 0 0(0,fun _=>none);have hsp:aL 0 0 0 0=(0,0):=rfl;rw[h4,hsp];unfold cP;simp only;cases rgE cells e 0 0(0,fun _=>none) with
 | none=>rfl
 | some z =>
  obtain⟨s,k⟩:=z;simp only[rgF];split<;>rfl
theorem nF {cells:List Int}{e:Ex}(h:256<cells.length):bO cells e=0:=by unfold bO;rw[if_pos (.inl h)]
def plV (e:Ex)(ao:Option Addr)(cap:Nat)(cv:Value):Value:=.agg #[.int .i64 e.k,.int .i64 e.n,stv e.nm,.slice ao e.kids.len cap,cv]
theorem bZ (e:Ex)(ao:Option Addr)(cap:Nat)(cv:Value):plV e ao cap cv=.agg #[.int .i64 e.k,.int .i64 e.n,stv e.nm,.slice ao e.kids.len cap,cv]:=rfl
theorem BV (cells:List Int):cells.any (fun c=>decide (c<0)||decide (4<c))=cells.any nlB:=rfl
theorem p8 {cells:List Int}(h:cells.any nlB=false):∀ c,c ∈ cells->0<=c/\c<=4:=by
 intro c hc;rw[List.any_eq_false] at h
 have:=h c hc
 simp[nlB] at this;omega
theorem py {cells:List Int}{e:Ex}(h:cells.any nlB=true):bO cells e=0:=by
 unfold bO;rw[if_pos(.inr(by rw[BV];exact h))]
theorem yP {cells:List Int}{e:Ex}(h1:cells.length<=256)(h2:cells.any nlB=false):bO cells e=(match rgE cells e 0 0 (0,fun _=>none) with|none=>0|some (_,k)=>if k=4 then 0 else k):=by
 rw[m9 h1(p8 h2)];unfold cP;cases rgE cells e 0 0(0,fun _=>none) with
 | none=>rfl
 | some z =>
  obtain⟨s,k⟩:=z;simp only;by_cases h4:k=4
  ·rw[if_pos h4,if_pos h4]
  ·rw[if_neg h4,if_neg h4]
theorem Dl (e:Ex)(ao:Option Addr)(cap:Nat)(cv:Value)(cells:List Int)(w:World)(hf:cr e)(hW:Wd w)(hc:InA w cv cells)(hcl:cells.length<=1000000000)(S:SnA w e.kids ao) :
  Calls Tryz.prog 84 #[plV e ao cap cv] w fun x w'=>(∃v,x=.returned(.tuple #[v,.bool(decide(bO cells e≠0))]))/\Below w.heap.size w w':=by
 obtain⟨W,hZ⟩:∃W,W=decide(bO cells e≠0):=⟨_,rfl⟩
 rw[<-hZ];have HW:Hid(W=decide(bO cells e≠0)):=hZ;clear hZ;obtain⟨ac,cc,hcv,hcx⟩:=hc;have hc:InA w cv cells:=⟨ac,cc,hcv,hcx⟩
 subst hcv;clear hcx;have hG:=hW.lt;have B0:Below w.heap.size w(w.alloc(.cells #[.int .i64 e.k,.int .i64 e.n,stv e.nm,.slice ao e.kids.len cap,.slice ac cells.length cc] 37)):=(Below.refl _ w).alloc(Nat.le_refl _) _;have E0:(w.alloc(.cells #[.int .i64 e.k,.int .i64 e.n,stv e.nm,.slice ao e.kids.len cap,.slice ac cells.length cc] 37)).heap[w.heap.size]?=some(.cells #[.int .i64 e.k,.int .i64 e.n,stv e.nm,.slice ao e.kids.len cap,.slice ac cells.length cc] 37):=heap_alloc_new w _;have S0:SlN(w.alloc(.cells #[.int .i64 e.k,.int .i64 e.n,stv e.nm,.slice ao e.kids.len cap,.slice ac cells.length cc] 37))(Lt0 w.heap.size) e.kids ao:=S.mono(fun i _ hl=>B0.block i hl) B0.size(fun k _ hl=>hl);have N0:Inw(w.alloc(.cells #[.int .i64 e.k,.int .i64 e.n,stv e.nm,.slice ao e.kids.len cap,.slice ac cells.length cc] 37))(Lt0 w.heap.size)(.slice ac cells.length cc) cells:=hc.mono(fun i _ hl=>B0.block i hl) B0.size(fun k _ hl=>hl);have I0:=hc.below B0;have W0:=hW.below B0;clear S hc hW;rw[bZ];go_enter Tryz.func84,Tryz.ntmps84;go_upto_region 1 with fail;generalize w.alloc(.cells #[.int .i64 e.k,.int .i64 e.n,stv e.nm,.slice ao e.kids.len cap,.slice ac cells.length cc] 37)=w0 at *;obtain⟨n0,hn0⟩:∃n0,n0=w.heap.size:=⟨_,rfl⟩
 rw[<-hn0] at E0 S0 N0 hG B0 ⊢;have HN:Hid(n0=w.heap.size):=hn0;clear hn0;obtain⟨p0,p1,p2,p3,p4,pf⟩:=am E0;by_cases h256:256<cells.length
 ·have hI:(256:Int)<(cells.length:Int):=by omega
  have HZ:Hid(W=false):=by show W=_;rw[HW.out,nF h256];rfl
  clear HW S0 N0 I0 W0 E0;go_wp2;refine bodyPost_ret(v:=.tuple #[.nilIface,.bool false])(by simp[results,Tryz.results84,go_sem]) rfl⟨⟨_,by rw[HZ.out]⟩,?_⟩;rw[<-HN.out];exact B0
 have hI:¬(256:Int)<(cells.length:Int):=by omega
 have c1:=li w0 _ cells I0 hcl;go_wp2_with fail;refine c1.mono ?_;rintro z w1⟨rfl,rfl⟩;cases hnl:cells.any nlB with
 | true =>
  have HZ:Hid(W=false):=by show W=_;rw[HW.out,py hnl];rfl
  clear HW S0 N0 I0 W0 E0 c1;go_wp2;refine bodyPost_ret(v:=.tuple #[.nilIface,.bool false])(by simp[results,Tryz.results84,go_sem]) rfl⟨⟨_,by rw[HZ.out]⟩,?_⟩;rw[<-HN.out];exact B0
 | false =>
 have HW2:Hid(W=decide((match rgE cells e 0 0(0,fun _=>none) with|none=>0|some(_,k)=>if k=4 then 0 else k)≠0)):=by show W=_;rw[HW.out,yP(by omega) hnl]
 clear HW c1;have hmm:=@run_makeMap Tryz.prog;obtain⟨w2,hw2⟩:∃w2,w2=(w1.alloc(.map #[] 0)).alloc(.cells #[.slice ac cells.length cc,.map(some w1.heap.size),.int .i64 0] 197):=⟨_,rfl⟩
 have b2:Below w1.heap.size w1 w2:=by rw[hw2];exact((Below.refl _ w1).alloc(Nat.le_refl _) _).alloc(by simp) _
 have M2:MpN w2(Lt0 n0) w1.heap.size 0(fun _=>none):=by
  rw[hw2];exact(MpN.made w1(Lt0 n0)).mono(Below.heap_alloc _ _ _(by simp))(fun k _ hl=>Below.heap_alloc _ _ _ hl)(by simp)
 have X2:w2.heap[w1.heap.size+1]?=some(.cells #[.slice ac cells.length cc,.map(some w1.heap.size),.int .i64 0] 197(0,0)):=by
  rw[hw2]
  have:=heap_alloc_new(w1.alloc(.map #[] 0))(.cells #[.slice ac cells.length cc,.map(some w1.heap.size),.int .i64 0] 197)
  simpa using this
 have R2:RD w2 n0(w1.heap.size+1) w1.heap.size(.slice ac cells.length cc) 0(0,fun _=>none):=⟨X2,⟨0,Nat.le_refl _,M2⟩,by show 0<=4096;omega,fun i y h=>by cases h⟩
 have hlt:=lt_of_block E0;have c4:=pm(e.kids.size+1) e ao cap n0(w1.heap.size+1) w1.heap.size(.slice ac cells.length cc) cells 0 0(0,fun _=>none) 0 w2(by omega) hf(by omega)(by omega)(by omega)(by omega)(by omega)(by omega) hG(W0.below b2) R2(N0.below b2)(S0.belowP b2);rw[ah] at c4;have E2:=(b2.block _ hlt).trans E0;have hmx:n0<=w1.heap.size:=by omega
 have hsz2:w1.heap.size+2<=w2.heap.size:=by have:=lt_of_block X2;omega
 clear E0 S0 N0 I0 W0 M2 X2 R2;go_upto_region 4 with fail;rw[<-hw2];clear hw2 hmm p0 p1 p2 p3 p4 pf;obtain⟨p0,p1,p2,p3,p4,pf⟩:=am E2;have hpos:Hid(∀ s k,rgE cells e 0 0(0,fun _=>none)=some(s,k)->k≠0):=fun s k h=>jw h;generalize rgE cells e 0 0(0,fun _=>none)=rr at *;go_wp2_with fail;refine c4.mono ?_;rintro z w3⟨⟨v,rfl,hv⟩,-,K3⟩;have B3:Below n0 w w3:=(B0.trans(b2.mono hmx)).trans(K3.below(by omega) hmx(by omega));clear c4 p0 p1 p2 p3 p4 pf E2 K3 b2;cases rr with
 | none =>
  have HZ:Hid(W=false):=by show W=_;rw[HW2.out];rfl
  clear HW2 hv;simp only[Option.isSome_none];go_wp2;refine bodyPost_ret(v:=.tuple #[.nilIface,.bool false])(by simp[results,Tryz.results84,go_sem]) rfl⟨⟨_,by rw[HZ.out]⟩,?_⟩;rw[<-HN.out];exact B3
 | some zz =>
  obtain⟨s2,k⟩:=zz;obtain⟨ty,vx,rfl,he⟩:=hv s2 k rfl;have c5:=fun w=>qG k w;simp only[Option.isSome_some];clear hv;go_wp2_with fail;refine(c5 _).mono ?_;rintro z w4⟨rfl,b4⟩;have B4:Below n0 w w4:=B3.trans(b4.mono(by have h1:=B3.size;have h2:=HN.out;omega));by_cases h4:k=4
  ·have hb4:(k==4)=true:=by simpa using h4
   have HZ:Hid(W=false):=by show W=_;rw[HW2.out];simp[h4]
   clear HW2 h4 c5;go_wp2;refine bodyPost_ret(v:=.tuple #[.nilIface,.bool false])(by simp[results,Tryz.results84,go_sem]) rfl⟨⟨_,by rw[HZ.out]⟩,?_⟩;rw[<-HN.out];exact B4
  ·have hb4:(k==4)=false:=by simpa using h4
   have HZ:Hid(W=true):=by show W=_;rw[HW2.out];simp[h4,hpos.out s2 k rfl]
   clear HW2 h4 c5;go_wp2;refine bodyPost_ret(v:=.tuple #[.iface ty vx,.bool true])(by simp[results,Tryz.results84,go_sem]) rfl⟨⟨_,by rw[HZ.out]⟩,?_⟩;rw[<-HN.out];exact B4
theorem xX (e:Ex)(ao:Option Addr)(cap:Nat)(cv:Value)(cells:List Int)(w:World)(hf:cr e)(hW:Wd w)(hc:InA w cv cells)(hcl:cells.length<=1000000000)(S:SnA w e.kids ao) :
  Calls Tryz.prog 44 #[plV e ao cap cv] w fun x w'=>x=.returned(.bool(decide(bO cells e≠0)))/\Below w.heap.size w w':=by
 obtain⟨ac,cc,hcv,hcx⟩:=hc;have hc:InA w cv cells:=⟨ac,cc,hcv,hcx⟩
 subst hcv;clear hcx;have B0:Below w.heap.size w(w.alloc(.cells #[.int .i64 e.k,.int .i64 e.n,stv e.nm,.slice ao e.kids.len cap,.slice ac cells.length cc] 37)):=(Below.refl _ w).alloc(Nat.le_refl _) _;have c1:=Dl e ao cap _ cells _ hf(hW.below B0)(hc.below B0) hcl(SnA.below S B0);generalize decide(bO cells e≠0)=W at *;rw[bZ] at c1 ⊢;go_enter Tryz.func44,Tryz.ntmps44;go_wp2_with fail;refine c1.mono ?_;rintro z w1⟨⟨v,rfl⟩,b1⟩;have B1:Below w.heap.size w w1:=B0.trans(b1.mono B0.size);clear c1 b1;go_wp2;go_ret;exact⟨rfl,B1⟩
def gu (w:World)(e:Ex)(x:Ending)(w':World):Prop :=
 if(md e).2.1=0 then ∃ay cy,x=.returned(.tuple #[plV(ofE e []) ay cy(.slice none 0 0),.int .i64 0])/\SlN w'(Nw w.heap.size)(ofE e []).kids ay/\Below w.heap.size w w'
 else x=.returned(.tuple #[.agg #[.int .i64 0,.int .i64 0,.string⟨#[]⟩,.slice none 0 0,.slice none 0 0],.int .i64 140])/\Below w.heap.size w w'
theorem Cp (e:Ex)(ao:Option Addr)(cap:Nat)(w:World)(hf:e.fit)(hsz:e.kids.size<=1000000)(S:SlT w e.kids ao) :
  Calls Tryz.prog 22 #[exV e ao cap] w(gu w e):=by
 obtain⟨w0,hw0⟩:∃w0,w0=(w.alloc(.cells #[.int .i64 e.k,.int .i64 e.n,stv e.nm,.slice ao e.kids.len cap,.int .i64 e.a] 25)).alloc(.cells #[.int .i64 0,.int .i64 0,.string⟨#[]⟩,.slice none 0 0,.slice none 0 0] 37):=⟨_,rfl⟩
 have B0:Below w.heap.size w w0:=by rw[hw0];exact((Below.refl _ w).alloc(Nat.le_refl _) _).alloc(by simp) _
 have E0:w0.heap[w.heap.size]?=some(.cells #[.int .i64 e.k,.int .i64 e.n,stv e.nm,.slice ao e.kids.len cap,.int .i64 e.a] 25(0,0)):=by
  rw[hw0];exact(Below.heap_alloc _ _ _(by simp)).trans(heap_alloc_new w _)
 have Z0:w0.heap[w.heap.size+1]?=some(.cells #[.int .i64 0,.int .i64 0,.string⟨#[]⟩,.slice none 0 0,.slice none 0 0] 37(0,0)):=by
  rw[hw0]
  have:=heap_alloc_new(w.alloc(.cells #[.int .i64 e.k,.int .i64 e.n,stv e.nm,.slice ao e.kids.len cap,.int .i64 e.a] 25))(.cells #[.int .i64 0,.int .i64 0,.string⟨#[]⟩,.slice none 0 0,.slice none 0 0] 37)
  simpa using this
 have S0:=SlT.below S B0;have c1:=xD e ao cap w0 hf S0;rw[aq] at c1 ⊢;go_enter Tryz.func22,Tryz.ntmps22;go_upto_region 1 with fail;rw[<-hw0];clear hw0;obtain⟨n0,hn0⟩:∃n0,n0=w.heap.size:=⟨_,rfl⟩
 rw[<-hn0] at E0 Z0 B0;try rw[<-hn0]
 have HB:Hid(n0=w.heap.size):=hn0;clear hn0;obtain⟨p0,p1,p2,p3,p4,pf⟩:=am E0;have HT:Hid(∀ (x:Ending)(w':World),(if(md e).2.1=0 then ∃ay cy,x=.returned(.tuple #[plV(ofE e []) ay cy(.slice none 0 0),.int .i64 0])/\SlN w'(Nw w.heap.size)(ofE e []).kids ay/\Below w.heap.size w w' else x=.returned(.tuple #[.agg #[.int .i64 0,.int .i64 0,.string⟨#[]⟩,.slice none 0 0,.slice none 0 0],.int .i64 140])/\Below w.heap.size w w')->gu w e x w'):=fun x w' h=>h;generalize md e=T at *;obtain⟨tk,te,tp⟩:=T;simp only at HT;go_wp2_with fail;refine c1.mono ?_;rintro x w1⟨rfl,b1⟩;have hzl:=lt_of_block Z0;have E1:=(b1.block _(lt_of_block E0)).trans E0;have Z1:=(b1.block _ hzl).trans Z0;have B1:Below n0 w w1:=B0.trans(b1.mono(by omega));have S1:=SlT.below S0 b1;clear c1 b1 E0 Z0 p0 p1 p2 p3 p4 pf S0 B0;obtain⟨p0,p1,p2,p3,p4,pf⟩:=am E1;obtain⟨z0,z1,z2,z3,z4,zf⟩:=am Z1;simp only[xN];by_cases hte:te=0
 ·have hb:((te:Int) != 0)=false:=by simp[hte]
  have c2:=tI(e.kids.size+1) e ao cap [](.slice none 0 0) w1(by omega) hf.len hf.sh(by simp;omega)(Nms.nil w1) S1;rw[aq] at c2;have HT2:Hid(∀ (x:Ending)(w':World),(∃ay cy,x=.returned(.tuple #[plV(ofE e []) ay cy(.slice none 0 0),.int .i64 0])/\SlN w'(Nw w.heap.size)(ofE e []).kids ay/\Below w.heap.size w w')->gu w e x w'):=fun x w' h=>HT.out x w'(by rw[if_pos hte];exact h);generalize ofE e []=y at *;clear HT S1 hte z0 z1 z2 z3 z4 zf;go_wp2_with fail;refine c2.mono ?_;rintro x w2⟨ay,cy,rfl,S2,b2⟩;have Z2:=(b2.block _(lt_of_block Z1)).trans Z1;have B2:Below n0 w w2:=B1.trans(b2.mono(by have:=lt_of_block Z1;omega));have hz1:=lt_of_block Z1;have HU:Hid(∃wz,wz=(((((w2.setCell⟨n0+1,0,none⟩(.int .i64 y.k)).setCell⟨n0+1,1,none⟩(.int .i64 y.n)).setCell⟨n0+1,2,none⟩(stv y.nm)).setCell⟨n0+1,3,none⟩(.slice ay y.kids.len cy)).setCell⟨n0+1,4,none⟩(.slice none 0 0))/\wz.cell?⟨n0+1,0,none⟩=some(.int .i64 y.k)/\wz.cell?⟨n0+1,1,none⟩=some(.int .i64 y.n)/\wz.cell?⟨n0+1,2,none⟩=some(stv y.nm)/\wz.cell?⟨n0+1,3,none⟩=some(.slice ay y.kids.len cy)/\wz.cell?⟨n0+1,4,none⟩=some(.slice none 0 0)/\gu w e(.returned(.tuple #[.agg #[.int .i64 y.k,.int .i64 y.n,stv y.nm,.slice ay y.kids.len cy,.slice none 0 0],.int .i64 0])) wz):=by
   obtain⟨u0,u1,u2,u3,u4,-⟩:=am(bG(.int .i64 y.k)(.int .i64 y.n)(stv y.nm)(.slice ay y.kids.len cy)(.slice none 0 0) Z2);refine⟨_,rfl,u0,u1,u2,u3,u4,HT2.out _ _⟨ay,cy,rfl,?_,?_⟩⟩
   ·exact S2.mono(fun k hp _=>ej w2(n0+1) k _ _ _ _ _(by have hp:w1.heap.size<=k:=hp;omega))(by simp)(fun k hp _=>by have hp:w1.heap.size<=k:=hp;have:=HB.out;show w.heap.size<=k;omega)
   ·rw[<-HB.out];exact(((((B2.setCell(p:=⟨n0+1,0,none⟩)(Nat.le_succ _) _).setCell(p:=⟨n0+1,1,none⟩)(Nat.le_succ _) _).setCell(p:=⟨n0+1,2,none⟩)(Nat.le_succ _) _).setCell(p:=⟨n0+1,3,none⟩)(Nat.le_succ _) _).setCell(p:=⟨n0+1,4,none⟩)(Nat.le_succ _) _)
  obtain⟨z0,z1,z2,z3,z4,zf⟩:=am Z2;clear c2 S2 b2 Z2 B2 Z1 E1 B1 p0 p1 p2 p3 p4 pf HT2 hz1;rw[ah];go_wp2;obtain⟨wz,hwz,v0,v1,v2,v3,v4,PZ⟩:=HU.out;rw[<-hwz];exact bodyPost_ret(v:=.tuple #[.agg #[.int .i64 y.k,.int .i64 y.n,stv y.nm,.slice ay y.kids.len cy,.slice none 0 0],.int .i64 0])(by simp[results,Tryz.results22,go_sem,v0,v1,v2,v3,v4]) rfl PZ
 ·have hb:((te:Int) != 0)=true:=by simp;omega
  have HU:Hid(∃wz,wz=(((((w1.setCell⟨n0+1,0,none⟩(.int .i64 0)).setCell⟨n0+1,1,none⟩(.int .i64 0)).setCell⟨n0+1,2,none⟩(.string⟨#[]⟩)).setCell⟨n0+1,3,none⟩(.slice none 0 0)).setCell⟨n0+1,4,none⟩(.slice none 0 0))/\wz.cell?⟨n0+1,0,none⟩=some(.int .i64 0)/\wz.cell?⟨n0+1,1,none⟩=some(.int .i64 0)/\wz.cell?⟨n0+1,2,none⟩=some(.string⟨#[]⟩)/\wz.cell?⟨n0+1,3,none⟩=some(.slice none 0 0)/\wz.cell?⟨n0+1,4,none⟩=some(.slice none 0 0)/\gu w e(.returned(.tuple #[.agg #[.int .i64 0,.int .i64 0,.string⟨#[]⟩,.slice none 0 0,.slice none 0 0],.int .i64 140])) wz):=by
   obtain⟨u0,u1,u2,u3,u4,-⟩:=am(bG(.int .i64 0)(.int .i64 0)(.string⟨#[]⟩)(.slice none 0 0)(.slice none 0 0) Z1);refine⟨_,rfl,u0,u1,u2,u3,u4,HT.out _ _ ?_⟩;rw[if_neg hte,<-HB.out];exact⟨rfl,(((((B1.setCell(p:=⟨n0+1,0,none⟩)(Nat.le_succ _) _).setCell(p:=⟨n0+1,1,none⟩)(Nat.le_succ _) _).setCell(p:=⟨n0+1,2,none⟩)(Nat.le_succ _) _).setCell(p:=⟨n0+1,3,none⟩)(Nat.le_succ _) _).setCell(p:=⟨n0+1,4,none⟩)(Nat.le_succ _) _)⟩
  clear HT hte E1 Z1 B1 S1;go_wp2;obtain⟨wz,hwz,v0,v1,v2,v3,v4,PZ⟩:=HU.out;rw[<-hwz];exact bodyPost_ret(v:=.tuple #[.agg #[.int .i64 0,.int .i64 0,.string⟨#[]⟩,.slice none 0 0,.slice none 0 0],.int .i64 140])(by simp[results,Tryz.results22,go_sem,v0,v1,v2,v3,v4]) rfl PZ
def Qd {α:Type}(f:List Tk->Rs α)(st:Sq)(X:α)(st':Sq):Prop:=st'=onw f st/\∀ ts y t,st=.inr ts->f ts=.ok y t->X=y
def Nou {α:Type}(f:List Tk->Rs α)(st:Sq):Prop:=∀ ts,st=.inr ts->f ts≠.out
theorem Nou.fst {α β:Type}{f:List Tk->Rs α}{g:α->List Tk->Rs β}{st:Sq}(h:Nou (fun ts=>(f ts).bind g) st):Nou f st:=fun ts hs e=>h ts hs (by show (f ts).bind g=_;rw[e];rfl)
theorem Nou.snd {α β:Type}{f:List Tk->Rs α}{g:α->List Tk->Rs β}{st st':Sq}{x:α}(h:Nou (fun ts=>(f ts).bind g) st)(q:Qd f st x st'):Nou (g x) st':=by
 obtain⟨rfl,q⟩:=q
 match st with
 | .inl ea=>intro ts hs;cases hs
 | .inr t0 =>
  intro ts hs e;cases hf:f t0 using Rs.on with
  | out=>exact h t0 rfl(by show(f t0).bind g=_;rw[hf];rfl)
  | bad e2 a=>simp[onw,hf,stp] at hs
  | ok y t =>
   have e1:=q t0 y t rfl hf;subst e1;have e2:t=ts:=by simpa [onw,hf,stp] using hs
   subst e2;exact h t0 rfl(by show(f t0).bind g=_;rw[hf];exact e)
theorem Qd.bind {α β:Type}{f:List Tk->Rs α}{g:α->List Tk->Rs β}{st st1 st':Sq}{x:α}{X:β}(p:Qd f st x st1)(q:Qd (g x) st1 X st'):Qd (fun ts=>(f ts).bind g) st X st':=by
 obtain⟨rfl,p⟩:=p;obtain⟨rfl,q⟩:=q
 match st with
 | .inl ea=>exact⟨rfl,fun ts y t hs=>by cases hs⟩
 | .inr t0 =>
  cases hf:f t0 using Rs.on with
  | out =>
   refine⟨by simp[onw,hf,stp,Rs.bind],fun ts y t hs hb=>?_⟩;cases hs;have hb:(f t0).bind g=_:=hb;rw[hf] at hb;cases hb
  | bad e a =>
   refine⟨by simp[onw,hf,stp,Rs.bind],fun ts y t hs hb=>?_⟩;cases hs;have hb:(f t0).bind g=_:=hb;rw[hf] at hb;cases hb
  | ok y t =>
   have e1:=p t0 y t rfl hf;subst e1;refine⟨by simp[onw,hf,stp,Rs.bind],fun ts z t2 hs hb=>?_⟩;cases hs;have hb:(f t0).bind g=_:=hb;rw[hf] at hb;exact q t z t2(by simp[onw,hf,stp]) hb
theorem Qd.ret {α:Type}(X:α)(st:Sq):Qd (fun t=>.ok X t) st X st:=by
 match st with
 | .inl ea=>exact⟨rfl,fun ts y t hs=>by cases hs⟩
 | .inr t0=>exact⟨rfl,fun ts y t hs hb=>(Rs.ok_inj hb).1⟩
theorem Qd.any {α:Type}[Inhabited α](f:List Tk->Rs α)(st:Sq):∃X,Qd f st X (onw f st):=by
 match st with
 | .inl ea=>exact⟨default,rfl,fun ts y t hs=>by cases hs⟩
 | .inr t0 =>
  cases hf:f t0 using Rs.on with
  | out=>exact⟨default,rfl,fun ts y t hs hb=>by cases hs;rw[hf] at hb;cases hb⟩
  | bad e a=>exact⟨default,rfl,fun ts y t hs hb=>by cases hs;rw[hf] at hb;cases hb⟩
  | ok y t=>exact⟨y,rfl,fun ts z t2 hs hb=>by cases hs;rw[hf] at hb;exact(Rs.ok_inj hb).1⟩
theorem Qd.congr {α:Type}{f g:List Tk->Rs α}{st st':Sq}{X:α}(h:Qd f st X st')(e:∀ ts,st=.inr ts->f ts=g ts):Qd g st X st':=by
 obtain⟨rfl,h⟩:=h
 match st with
 | .inl ea=>exact⟨rfl,fun ts y t hs=>by cases hs⟩
 | .inr t0=>exact⟨by simp only[onw];rw[e t0 rfl],fun ts y t hs hb=>by rw[<-e ts hs] at hb;exact h ts y t hs hb⟩
theorem Nou.congr {α:Type}{f g:List Tk->Rs α}{st:Sq}(h:Nou f st)(e:∀ ts,st=.inr ts->f ts=g ts):Nou g st:=fun ts hs=>by rw[<-e ts hs];exact h ts hs
def dm (rb:Nat)(all:List Tk)(o q:Nat)(w:World)(st:Sq)(f:List Tk->Rs Ex)(e:Ending)(w':World):Prop :=
 ∃X ao cap st',e=.returned(exV X ao cap)/\Sl w'(Nw w.heap.size) X.kids ao/\QS w' rb all o q st'/\au rb w w'/\Qd f st X st'
def jt (rec:Rdr):Prop :=
 ∀ (w:World)(rb:Nat)(all:List Tk)(row o q:Nat)(st:Sq),(∀ x,x ∈ all->ey x)->1<=row->row<=7->QS w rb all o q st->Nou(rec row o q) st->Calls Tryz.prog 34 #[.pointer(some⟨rb,0,none⟩),.int .i64(row:Nat)] w(dm rb all o q w st(rec row o q))
theorem QS.alloc {w:World}{rb o q:Nat}{all:List Tk}{st:Sq}(h:QS w rb all o q st)(ob:Obj):QS (w.alloc ob) rb all o q st:=h.below ((Below.refl _ w).alloc (Nat.le_refl _) ob)
theorem Rq.setP {w:World}{rb i:Nat}{o q:Int}{er pl:Nat}{all:List Tk}(h:Rq w rb i o q er pl all)(p:Addr)(v:Value)(hp:rb<p.block):Rq (w.setCell p v) rb i o q er pl all:=by
 obtain⟨g,cap,h1,h2,h4,h5⟩:=h;exact⟨g,cap,(heap_setCell_other w p rb v(by omega)).trans h1,h2,fun j u hu=>(World.cell?_of_block(a:=⟨g,j,none⟩)(heap_setCell_other w p g v(by omega))).trans(h4 j u hu),h5⟩
theorem QS.setP {w:World}{rb o q:Nat}{all:List Tk}{st:Sq}(h:QS w rb all o q st)(p:Addr)(v:Value)(hp:rb<p.block):QS (w.setCell p v) rb all o q st:=by
 match st,h with
 | .inl(er,a),⟨i,o',q',h1,h2⟩=>exact⟨i,o',q',h1.setP p v hp,h2⟩
 | .inr ts,⟨i,pl,h1,h2⟩=>exact⟨i,pl,h1.setP p v hp,h2⟩
theorem QS.set5 {w:World}{rb o q:Nat}{all:List Tk}{st:Sq}(h:QS w rb all o q st){b:Nat}(hb:rb<b)(b0 b1 b2 b3 b4:Value):QS (((((w.setCell ⟨b,0,none⟩ b0).setCell ⟨b,1,none⟩ b1).setCell ⟨b,2,none⟩ b2).setCell ⟨b,3,none⟩ b3).setCell ⟨b,4,none⟩ b4) rb all o q st:=((((h.setP ⟨b,0,none⟩ b0 hb).setP ⟨b,1,none⟩ b1 hb).setP ⟨b,2,none⟩ b2 hb).setP ⟨b,3,none⟩ b3 hb).setP ⟨b,4,none⟩ b4 hb
theorem ot {w:World}{rb o q:Nat}{all:List Tk}{x:Tk}{r:List Tk}(s:List UInt8)(hs:s≠[])(hx:x.t=s)(h:QS w rb all o q (.inr (x::r))) :
  Calls Tryz.prog 129 #[.pointer(some⟨rb,0,none⟩)] w fun e w'=>e=.returned(.tuple #[])/\QS w' rb all(o+1) q(onw(aG s o)(.inr(x::r)))/\au rb w w':=by
 by_cases h64:o=64
 ·subst h64;have e1:onw(aG s 64)(.inr(x::r))=.inl(121,x.a):=by simp[onw,aG,hx,stp]
  rw[e1];exact tL h
 ·have e1:onw(aG s o)(.inr(x::r))=.inr r:=by simp[onw,aG,hx,stp,h64]
  rw[e1];exact oF(by have:=h.le.1;omega)(by rw[hx];exact hs) h
theorem ji {o:Nat}{x:Tk}{r:List Tk}(s:List UInt8):Qd (aG s o) (.inr (x::r)) x.a (onw (aG s o) (.inr (x::r))):=by
 refine⟨rfl,fun ts y t hs hb=>?_⟩;cases hs;unfold aG at hb;by_cases hx:x.t=s
 ·by_cases h64:o=64
  ·simp[hx,h64] at hb
  ·simp[hx,h64] at hb;exact hb.1
 ·simp[hx] at hb
def Ctx {β:Type}(F:List Tk->Rs β)(st0:Sq)(G:List Tk->Rs β)(st:Sq):Prop:=Nou G st/\∀ X st',Qd G st X st'->Qd F st0 X st'
theorem Ctx.start {β:Type}{F:List Tk->Rs β}{st:Sq}(h:Nou F st):Ctx F st F st:=⟨h,fun _ _ q=>q⟩
theorem Ctx.nou {α β:Type}{F:List Tk->Rs β}{st0 st:Sq}{f:List Tk->Rs α}{g:α->List Tk->Rs β}(h:Ctx F st0 (fun ts=>(f ts).bind g) st):Nou f st:=h.1.fst
theorem Ctx.step {α β:Type}{F:List Tk->Rs β}{st0 st st1:Sq}{f:List Tk->Rs α}{g:α->List Tk->Rs β}{x:α}(h:Ctx F st0 (fun ts=>(f ts).bind g) st)(q:Qd f st x st1):Ctx F st0 (g x) st1:=⟨h.1.snd q,fun X st' q2=>h.2 X st' (q.bind q2)⟩
theorem Ctx.fin {β:Type}{F:List Tk->Rs β}{st0 st:Sq}{X:β}(h:Ctx F st0 (fun t=>.ok X t) st):Qd F st0 X st:=h.2 X st (Qd.ret X st)
def tJ (rb:Nat)(all:List Tk)(o q:Nat)(w:World)(st:Sq)(f:List Tk->Rs Nat)(e:Ending)(w':World):Prop :=
 ∃X st',e=.returned(.tuple #[])/\QS w' rb all o q st'/\au rb w w'/\Qd f st X st'
theorem BN {rb:Nat}{all:List Tk}{o q:Nat}{w:World}{st:Sq}(f:List Tk->Rs Nat){e:Ending}{w':World}(h:e=.returned (.tuple #[])/\QS w' rb all o q (onw f st)/\au rb w w'):tJ rb all o q w st f e w':=by
 obtain⟨X,hX⟩:=Qd.any f st;exact⟨X,_,h.1,h.2.1,h.2.2,hX⟩
theorem lh {w:World}{rb o q:Nat}{all:List Tk}{st:Sq}(TI:∀ x,x ∈ all->ey x)(s:List UInt8)(hs:s≠[]/\aX s=false)(h:QS w rb all o q st) :
  Calls Tryz.prog 247 #[.pointer(some⟨rb,0,none⟩),stv s] w(tJ rb all o q w st(aW s)):=(qS TI s hs.1 hs.2 h).mono fun _ _ hh=>BN _ hh
theorem ic {w:World}{rb o q:Nat}{all:List Tk}{st:Sq}(TI:∀ x,x ∈ all->ey x)(s:List UInt8)(hs:s≠[]/\aX s=false)(h:QS w rb all (o+1) q st) :
  Calls Tryz.prog 201 #[.pointer(some⟨rb,0,none⟩),stv s] w(tJ rb all o q w st(aW s)):=(Ah TI s hs.1 hs.2 h).mono fun _ _ hh=>BN _ hh
theorem io {w:World}{rb o q:Nat}{all:List Tk}{st:Sq}(TI:∀ x,x ∈ all->ey x)(s:List UInt8)(hs:s≠[]/\aX s=false)(h:QS w rb all o q st) :
  Calls Tryz.prog 200 #[.pointer(some⟨rb,0,none⟩),stv s] w(tJ rb all(o+1) q w st(aG s o)):=(nA TI s hs.1 hs.2 h).mono fun _ _ hh=>by
 obtain⟨X,hX⟩:=Qd.any(aG s o) st;exact⟨X,_,hh.1,hh.2.1,hh.2.2,hX⟩
theorem yx {rec:Rdr}(R:jt rec){w:World}{rb o q:Nat}{all:List Tk}{x:Tk}{r:List Tk}(TI:∀ x,x ∈ all->ey x)(hx:x.t=[105,102])(h:QS w rb all o q (.inr (x::r)))(hn:Nou (dw rec o q) (.inr (x::r))) :
  Calls Tryz.prog 202 #[.pointer(some⟨rb,0,none⟩),.int .i64(x.a:Nat)] w(dm rb all o q w(.inr(x::r))(dw rec o q)):=by
 have C0:=Ctx.start hn;have q0:=ji(o:=o)(x:=x)(r:=r) [105,102];have hrb:=h.lt;have K0:au rb w(w.alloc exZ):=(au.refl rb w).alloc _;have Z0:(w.alloc exZ).heap[w.heap.size]?=some exZ:=heap_alloc_new w _;have h0:=h.alloc exZ;have c1:=ot [105,102](by decide) hx h0;have C1:=C0.step q0;generalize onw(aG [105,102] o)(.inr(x::r))=st1 at *;clear C0 q0 hn;go_enter Tryz.func202,Tryz.ntmps202;go_wp2_with fail;refine c1.mono ?_;rintro e w1⟨rfl,h1,k1⟩;clear c1;have Z1:=k1.blk Z0(by have:=K0.size;omega);have K1:=K0.trans k1;clear K0 Z0;have c2:=R _ rb all 1(o+1)(q) st1 TI(by omega)(by omega) h1 C1.nou;go_wp2_with fail;refine c2.mono ?_;rintro e w2⟨x2,ao2,cap2,st2,rfl,S2,h2,k2,Q2⟩;have C2:=C1.step Q2;clear c2 Q2 C1;have S2a:=S2.low(show(w.heap.size+1)<=_ from(by have:=lt_of_block Z1;omega));clear S2;have Z2:=k2.blk Z1(by have:=K1.size;omega);have K2:=K1.trans k2;clear K1 Z1;have h2a:=h2.alloc(.cells #[.int .i64 x2.k,.int .i64 x2.n,stv x2.nm,.slice ao2 x2.kids.len cap2,.int .i64 x2.a] 25);have K2a:=K2.alloc(.cells #[.int .i64 x2.k,.int .i64 x2.n,stv x2.nm,.slice ao2 x2.kids.len cap2,.int .i64 x2.a] 25);have Z2a:=(Below.heap_alloc w2(.cells #[.int .i64 x2.k,.int .i64 x2.n,stv x2.nm,.slice ao2 x2.kids.len cap2,.int .i64 x2.a] 25) _(lt_of_block Z2)).trans Z2;have Y2_a:(World.alloc w2(.cells #[.int .i64 x2.k,.int .i64 x2.n,stv x2.nm,.slice ao2 x2.kids.len cap2,.int .i64 x2.a] 25)).heap[w2.heap.size]?=some(.cells #[.int .i64 x2.k,.int .i64 x2.n,stv x2.nm,.slice ao2 x2.kids.len cap2,.int .i64 x2.a] 25):=heap_alloc_new w2 _;have S2a_2b:=S2a.allocN(.cells #[.int .i64 x2.k,.int .i64 x2.n,stv x2.nm,.slice ao2 x2.kids.len cap2,.int .i64 x2.a] 25);have hb2:rb<w2.heap.size:=by have:=K2.size;omega
 clear h2 K2 Z2 S2a;rw[aq];have c3:=lh TI [116,104,101,110]⟨by decide,by decide⟩ h2a;go_wp2_with fail;refine c3.mono ?_;rintro e w3⟨x3,st3,rfl,h3,k3,Q3⟩;have C3:=C2.step Q3;clear c3 Q3 C2;have Z3:=k3.blk Z2a(by have:=K2a.size;omega);have K3:=K2a.trans k3;have Y2_3:=k3.blk Y2_a(by omega);have S2a_3:=S2a_2b.keepN k3(by omega);clear K2a Z2a Y2_a S2a_2b;have c4:=R _ rb all 1(o+1)(q) st3 TI(by omega)(by omega) h3 C3.nou;go_wp2_with fail;refine c4.mono ?_;rintro e w4⟨x4,ao4,cap4,st4,rfl,S4,h4,k4,Q4⟩;have C4:=C3.step Q4;clear c4 Q4 C3;have S4a:=S4.low(show(w.heap.size+1)<=_ from(by have:=lt_of_block Z3;omega));clear S4;have Z4:=k4.blk Z3(by have:=K3.size;omega);have K4:=K3.trans k4;have Y2_4:=k4.blk Y2_3(by omega);have S2a_4:=S2a_3.keepN k4(by omega);clear K3 Z3 Y2_3 S2a_3;have h4a:=h4.alloc(.cells #[.int .i64 x4.k,.int .i64 x4.n,stv x4.nm,.slice ao4 x4.kids.len cap4,.int .i64 x4.a] 25);have K4a:=K4.alloc(.cells #[.int .i64 x4.k,.int .i64 x4.n,stv x4.nm,.slice ao4 x4.kids.len cap4,.int .i64 x4.a] 25);have Z4a:=(Below.heap_alloc w4(.cells #[.int .i64 x4.k,.int .i64 x4.n,stv x4.nm,.slice ao4 x4.kids.len cap4,.int .i64 x4.a] 25) _(lt_of_block Z4)).trans Z4;have Y2_4a:=(Below.heap_alloc w4(.cells #[.int .i64 x4.k,.int .i64 x4.n,stv x4.nm,.slice ao4 x4.kids.len cap4,.int .i64 x4.a] 25) _(lt_of_block Y2_4)).trans Y2_4;have Y4_a:(World.alloc w4(.cells #[.int .i64 x4.k,.int .i64 x4.n,stv x4.nm,.slice ao4 x4.kids.len cap4,.int .i64 x4.a] 25)).heap[w4.heap.size]?=some(.cells #[.int .i64 x4.k,.int .i64 x4.n,stv x4.nm,.slice ao4 x4.kids.len cap4,.int .i64 x4.a] 25):=heap_alloc_new w4 _;have S2a_4b:=S2a_4.allocN(.cells #[.int .i64 x4.k,.int .i64 x4.n,stv x4.nm,.slice ao4 x4.kids.len cap4,.int .i64 x4.a] 25);have S4a_4b:=S4a.allocN(.cells #[.int .i64 x4.k,.int .i64 x4.n,stv x4.nm,.slice ao4 x4.kids.len cap4,.int .i64 x4.a] 25);have hb4:rb<w4.heap.size:=by have:=K4.size;omega
 clear h4 K4 Z4 Y2_4 S2a_4 S4a;rw[aq];have c5:=lh TI [101,108,115,101]⟨by decide,by decide⟩ h4a;go_wp2_with fail;refine c5.mono ?_;rintro e w5⟨x5,st5,rfl,h5,k5,Q5⟩;have C5:=C4.step Q5;clear c5 Q5 C4;have Z5:=k5.blk Z4a(by have:=K4a.size;omega);have K5:=K4a.trans k5;have Y2_5:=k5.blk Y2_4a(by omega);have Y4_5:=k5.blk Y4_a(by omega);have S2a_5:=S2a_4b.keepN k5(by omega);have S4a_5:=S4a_4b.keepN k5(by omega);clear K4a Z4a Y2_4a Y4_a S2a_4b S4a_4b;have c6:=R _ rb all 1(o+1)(q) st5 TI(by omega)(by omega) h5 C5.nou;go_wp2_with fail;refine c6.mono ?_;rintro e w6⟨x6,ao6,cap6,st6,rfl,S6,h6,k6,Q6⟩;have C6:=C5.step Q6;clear c6 Q6 C5;have S6a:=S6.low(show(w.heap.size+1)<=_ from(by have:=lt_of_block Z5;omega));clear S6;have Z6:=k6.blk Z5(by have:=K5.size;omega);have K6:=K5.trans k6;have Y2_6:=k6.blk Y2_5(by omega);have Y4_6:=k6.blk Y4_5(by omega);have S2a_6:=S2a_5.keepN k6(by omega);have S4a_6:=S4a_5.keepN k6(by omega);clear K5 Z5 Y2_5 Y4_5 S2a_5 S4a_5;have h6a:=h6.alloc(.cells #[.int .i64 x6.k,.int .i64 x6.n,stv x6.nm,.slice ao6 x6.kids.len cap6,.int .i64 x6.a] 25);have K6a:=K6.alloc(.cells #[.int .i64 x6.k,.int .i64 x6.n,stv x6.nm,.slice ao6 x6.kids.len cap6,.int .i64 x6.a] 25);have Z6a:=(Below.heap_alloc w6(.cells #[.int .i64 x6.k,.int .i64 x6.n,stv x6.nm,.slice ao6 x6.kids.len cap6,.int .i64 x6.a] 25) _(lt_of_block Z6)).trans Z6;have Y2_6a:=(Below.heap_alloc w6(.cells #[.int .i64 x6.k,.int .i64 x6.n,stv x6.nm,.slice ao6 x6.kids.len cap6,.int .i64 x6.a] 25) _(lt_of_block Y2_6)).trans Y2_6;have Y4_6a:=(Below.heap_alloc w6(.cells #[.int .i64 x6.k,.int .i64 x6.n,stv x6.nm,.slice ao6 x6.kids.len cap6,.int .i64 x6.a] 25) _(lt_of_block Y4_6)).trans Y4_6;have Y6_a:(World.alloc w6(.cells #[.int .i64 x6.k,.int .i64 x6.n,stv x6.nm,.slice ao6 x6.kids.len cap6,.int .i64 x6.a] 25)).heap[w6.heap.size]?=some(.cells #[.int .i64 x6.k,.int .i64 x6.n,stv x6.nm,.slice ao6 x6.kids.len cap6,.int .i64 x6.a] 25):=heap_alloc_new w6 _;have S2a_6b:=S2a_6.allocN(.cells #[.int .i64 x6.k,.int .i64 x6.n,stv x6.nm,.slice ao6 x6.kids.len cap6,.int .i64 x6.a] 25);have S4a_6b:=S4a_6.allocN(.cells #[.int .i64 x6.k,.int .i64 x6.n,stv x6.nm,.slice ao6 x6.kids.len cap6,.int .i64 x6.a] 25);have S6a_6b:=S6a.allocN(.cells #[.int .i64 x6.k,.int .i64 x6.n,stv x6.nm,.slice ao6 x6.kids.len cap6,.int .i64 x6.a] 25);have hb6:rb<w6.heap.size:=by have:=K6.size;omega
 clear h6 K6 Z6 Y2_6 Y4_6 S2a_6 S4a_6 S6a;rw[aq];go_upto_region 7 with fail;generalize(World.alloc w6(.cells #[.int .i64 x6.k,.int .i64 x6.n,stv x6.nm,.slice ao6 x6.kids.len cap6,.int .i64 x6.a] 25))=v7 at *;obtain⟨o8,d8,df8,h8⟩:=h6a.down;have k8:au rb v7 _:=au.at v7 2(.int .i64(wrap64(o8-1)));clear h6a;go_upto_region 8 with fail;generalize v7.setCell⟨rb,2,none⟩(.int .i64(wrap64(o8-1)))=w8 at *;clear d8 df8;have Z8:=k8.blk Z6a(by have:=K6a.size;omega);have K8:=K6a.trans k8;have Y2_8:=k8.blk Y2_6a(by omega);have Y4_8:=k8.blk Y4_6a(by omega);have Y6_8:=k8.blk Y6_a(by omega);have S2a_8:=S2a_6b.keepN k8(by omega);have S4a_8:=S4a_6b.keepN k8(by omega);have S6a_8:=S6a_6b.keepN k8(by omega);clear K6a Z6a Y2_6a Y4_6a Y6_a S2a_6b S4a_6b S6a_6b;have NS:Sl(World.alloc w8(.cells [.int .i64 x2.k,.int .i64 x2.n,stv x2.nm,.slice ao2 x2.kids.len cap2,.int .i64 x2.a,.int .i64 x4.k,.int .i64 x4.n,stv x4.nm,.slice ao4 x4.kids.len cap4,.int .i64 x4.a,.int .i64 x6.k,.int .i64 x6.n,stv x6.nm,.slice ao6 x6.kids.len cap6,.int .i64 x6.a].toArray 25))(Nw(w.heap.size+1))(((one x2).snoc x4).snoc x6)(some⟨w8.heap.size,0,none⟩):=Sl.fresh _ 25(Fc.app(Fc.app(Fc.one(e:=x2) cap2 S2a_8)(Fc.one(e:=x4) cap4 S4a_8))(Fc.one(e:=x6) cap6 S6a_8))(by have:=lt_of_block Z8;omega);have KF:=K8.alloc(.cells [.int .i64 x2.k,.int .i64 x2.n,stv x2.nm,.slice ao2 x2.kids.len cap2,.int .i64 x2.a,.int .i64 x4.k,.int .i64 x4.n,stv x4.nm,.slice ao4 x4.kids.len cap4,.int .i64 x4.a,.int .i64 x6.k,.int .i64 x6.n,stv x6.nm,.slice ao6 x6.kids.len cap6,.int .i64 x6.a].toArray 25);have RF:=h8.alloc(.cells [.int .i64 x2.k,.int .i64 x2.n,stv x2.nm,.slice ao2 x2.kids.len cap2,.int .i64 x2.a,.int .i64 x4.k,.int .i64 x4.n,stv x4.nm,.slice ao4 x4.kids.len cap4,.int .i64 x4.a,.int .i64 x6.k,.int .i64 x6.n,stv x6.nm,.slice ao6 x6.kids.len cap6,.int .i64 x6.a].toArray 25);have ZF:=(Below.heap_alloc w8(.cells [.int .i64 x2.k,.int .i64 x2.n,stv x2.nm,.slice ao2 x2.kids.len cap2,.int .i64 x2.a,.int .i64 x4.k,.int .i64 x4.n,stv x4.nm,.slice ao4 x4.kids.len cap4,.int .i64 x4.a,.int .i64 x6.k,.int .i64 x6.n,stv x6.nm,.slice ao6 x6.kids.len cap6,.int .i64 x6.a].toArray 25) _(lt_of_block Z8)).trans Z8;have KE:=KF.set5(b:=w.heap.size)(by omega)(.int .i64 19)(.int .i64 0)(stv [])(.slice(some⟨w8.heap.size,0,none⟩) 3 3)(.int .i64 x.a);have RE:=RF.set5(b:=w.heap.size)(by omega)(.int .i64 19)(.int .i64 0)(stv [])(.slice(some⟨w8.heap.size,0,none⟩) 3 3)(.int .i64 x.a);have ZE:=bG(.int .i64 19)(.int .i64 0)(stv [])(.slice(some⟨w8.heap.size,0,none⟩) 3 3)(.int .i64 x.a) ZF;have SE:Sl _(Nw w.heap.size) _ _:=(NS.set5(b:=w.heap.size)(by omega)(.int .i64 19)(.int .i64 0)(stv [])(.slice(some⟨w8.heap.size,0,none⟩) 3 3)(.int .i64 x.a)).low(by omega);obtain⟨z0,z1,z2,z3,z4,zf⟩:=am ZF;obtain⟨u0,u1,u2,u3,u4,-⟩:=am ZE;obtain⟨y00,y01,y02,y03,y04,y0f⟩:=am Y2_8;obtain⟨y10,y11,y12,y13,y14,y1f⟩:=am Y4_8;obtain⟨y20,y21,y22,y23,y24,y2f⟩:=am Y6_8;have FIN:=C6.fin;clear C6 ZE ZF KF RF NS K8 Z8 h8 Y2_8 Y4_8 Y6_8 S2a_8 S4a_8 S6a_8;go_wp2;exact bodyPost_ret(v:=exV⟨19,0,[],x.a,(((one x2).snoc x4).snoc x6)⟩(some⟨w8.heap.size,0,none⟩) 3)(by simp[results,Tryz.results202,go_sem,u0,u1,u2,u3,u4,exV];rfl) rfl⟨_,_,_,_,rfl,SE,RE,KE,FIN⟩
theorem Eh {rec:Rdr}(R:jt rec){w:World}{rb o q:Nat}{all:List Tk}{x:Tk}{r:List Tk}(TI:∀ x,x ∈ all->ey x)(h:QS w rb all o q (.inr (x::r)))(hn:Nou (dc rec [110,111,116] 7 3 o q) (.inr (x::r))) :
  Calls Tryz.prog 64 #[.pointer(some⟨rb,0,none⟩)] w(dm rb all o q w(.inr(x::r))(dc rec [110,111,116] 7 3 o q)):=by
 have hrb:=h.lt;have K0:au rb w(w.alloc exZ):=(au.refl rb w).alloc _;have Z0:(w.alloc exZ).heap[w.heap.size]?=some exZ:=heap_alloc_new w _;have h0:=h.alloc exZ;have hs1:w.heap.size<(w.alloc exZ).heap.size:=by simp
 have c0:=rZ TI [110,111,116](by decide)(by decide) h0;by_cases hx:x.t=[110,111,116]
 ·have EQ:∀ ts,(.inr(x::r):Sq)=.inr ts->dc rec [110,111,116] 7 3 o q ts=(fun ts=>(aG [110,111,116] o ts).bind fun a t1=>(rec 3(o+1) q t1).bind fun kid t2=>.ok⟨7,0,[],(a:Nat),one kid⟩ t2) ts:=fun ts hs=>by
   cases hs
   show(if x.t=[110,111,116] then _ else _)=(aG [110,111,116] o(x::r)).bind _
   by_cases h64:o=64
   ·simp[aG,hx,h64,Rs.bind]
   ·simp[aG,hx,h64,Rs.bind]
  have C0:=Ctx.start(hn.congr EQ);have HC:Hid(∀ X st',Qd(fun ts=>(aG [110,111,116] o ts).bind fun a t1=>(rec 3(o+1) q t1).bind fun kid t2=>.ok⟨7,0,[],(a:Nat),one kid⟩ t2)(.inr(x::r)) X st'->Qd(dc rec [110,111,116] 7 3 o q)(.inr(x::r)) X st'):=fun X st' q=>q.congr fun ts hs=>(EQ ts hs).symm;have q0:=ji(o:=o)(x:=x)(r:=r) [110,111,116];have C1:=C0.step q0;have c1:=fun(wx:World)(hh:QS wx rb all o q(.inr(x::r)))=>ot [110,111,116](by decide) hx hh;rw[show isS [110,111,116](.inr(x::r))=true by simp[isS,hx]] at c0;generalize onw(aG [110,111,116] o)(.inr(x::r))=st1 at *;clear C0 q0 hn EQ hx;go_enter Tryz.func64,Tryz.ntmps64;go_wp2_with fail;refine c0.mono ?_;rintro e w1⟨rfl,b1⟩;clear c0;have k1:=au.ofBelow(rb:=rb) b1;have h1:=h0.below b1;clear b1 h0;have Z1:=k1.blk Z0(by have:=K0.size;omega);have K1:=K0.trans k1;clear K0 Z0;obtain⟨i,g,cap,L,hg,hi,hcL,hcap,hL,hm,d0,d1,-,-,-,⟨-,-,-,t3⟩,hf⟩:=h1.ok;have hiI:(i:Int)<(L:Int):=by omega
  go_wp2_with fail
  go_quiet(fail)
  have b2:Below w1.heap.size w1(w1.drewN nq):=bdr(Below.refl _ _) nq;have h2:=h1.below b2;have k2:=au.ofBelow(rb:=rb) b2;generalize w1.drewN nq=w2 at *;clear b2 h1 d0 d1 t3 hf hm;have Z2:=k2.blk Z1(by have:=K1.size;omega);have K2:=K1.trans k2;clear K1 Z1;have c3:=c1 _ h2;clear c1;go_wp2_with fail;refine c3.mono ?_;rintro e w3⟨rfl,h3,k3⟩;clear c3;have Z3:=k3.blk Z2(by have:=K2.size;omega);have K3:=K2.trans k3;clear K2 Z2;have c4:=R _ rb all 3(o+1)(q) st1 TI(by omega)(by omega) h3 C1.nou;go_wp2_with fail;refine c4.mono ?_;rintro e w4⟨x4,ao4,cap4,st4,rfl,S4,h4,k4,Q4⟩;have C4:=C1.step Q4;clear c4 Q4 C1;have S4a:=S4.low(show(w.heap.size+1)<=_ from(by have:=lt_of_block Z3;omega));clear S4;have Z4:=k4.blk Z3(by have:=K3.size;omega);have K4:=K3.trans k4;clear K3 Z3;have h4a:=h4.alloc(.cells #[.int .i64 x4.k,.int .i64 x4.n,stv x4.nm,.slice ao4 x4.kids.len cap4,.int .i64 x4.a] 25);have K4a:=K4.alloc(.cells #[.int .i64 x4.k,.int .i64 x4.n,stv x4.nm,.slice ao4 x4.kids.len cap4,.int .i64 x4.a] 25);have Z4a:=(Below.heap_alloc w4(.cells #[.int .i64 x4.k,.int .i64 x4.n,stv x4.nm,.slice ao4 x4.kids.len cap4,.int .i64 x4.a] 25) _(lt_of_block Z4)).trans Z4;have Y4_a:(World.alloc w4(.cells #[.int .i64 x4.k,.int .i64 x4.n,stv x4.nm,.slice ao4 x4.kids.len cap4,.int .i64 x4.a] 25)).heap[w4.heap.size]?=some(.cells #[.int .i64 x4.k,.int .i64 x4.n,stv x4.nm,.slice ao4 x4.kids.len cap4,.int .i64 x4.a] 25):=heap_alloc_new w4 _;have S4a_4b:=S4a.allocN(.cells #[.int .i64 x4.k,.int .i64 x4.n,stv x4.nm,.slice ao4 x4.kids.len cap4,.int .i64 x4.a] 25);have hb4:rb<w4.heap.size:=by have:=K4.size;omega
  clear h4 K4 Z4 S4a;rw[aq];go_upto_region 7 with fail;generalize(World.alloc w4(.cells #[.int .i64 x4.k,.int .i64 x4.n,stv x4.nm,.slice ao4 x4.kids.len cap4,.int .i64 x4.a] 25))=v5 at *;obtain⟨o6,d6,df6,h6⟩:=h4a.down;have k6:au rb v5 _:=au.at v5 2(.int .i64(wrap64(o6-1)));clear h4a;go_upto_region 8 with fail;generalize v5.setCell⟨rb,2,none⟩(.int .i64(wrap64(o6-1)))=w6 at *;clear d6 df6;have Z6:=k6.blk Z4a(by have:=K4a.size;omega);have K6:=K4a.trans k6;have Y4_6:=k6.blk Y4_a(by omega);have S4a_6:=S4a_4b.keepN k6(by omega);clear K4a Z4a Y4_a S4a_4b;have HX:=HC.out _ _ C4.fin;have NS:Sl(World.alloc w6(.cells [.int .i64 x4.k,.int .i64 x4.n,stv x4.nm,.slice ao4 x4.kids.len cap4,.int .i64 x4.a].toArray 25))(Nw(w.heap.size+1))(one x4)(some⟨w6.heap.size,0,none⟩):=Sl.fresh _ 25(Fc.one(e:=x4) cap4 S4a_6)(by have:=lt_of_block Z6;omega);have KF:=K6.alloc(.cells [.int .i64 x4.k,.int .i64 x4.n,stv x4.nm,.slice ao4 x4.kids.len cap4,.int .i64 x4.a].toArray 25);have RF:=h6.alloc(.cells [.int .i64 x4.k,.int .i64 x4.n,stv x4.nm,.slice ao4 x4.kids.len cap4,.int .i64 x4.a].toArray 25);have ZF:=(Below.heap_alloc w6(.cells [.int .i64 x4.k,.int .i64 x4.n,stv x4.nm,.slice ao4 x4.kids.len cap4,.int .i64 x4.a].toArray 25) _(lt_of_block Z6)).trans Z6;have KE:=KF.set5(b:=w.heap.size)(by omega)(.int .i64 7)(.int .i64 0)(stv [])(.slice(some⟨w6.heap.size,0,none⟩) 1 1)(.int .i64 x.a);have RE:=RF.set5(b:=w.heap.size)(by omega)(.int .i64 7)(.int .i64 0)(stv [])(.slice(some⟨w6.heap.size,0,none⟩) 1 1)(.int .i64 x.a);have ZE:=bG(.int .i64 7)(.int .i64 0)(stv [])(.slice(some⟨w6.heap.size,0,none⟩) 1 1)(.int .i64 x.a) ZF;have SE:Sl _(Nw w.heap.size) _ _:=(NS.set5(b:=w.heap.size)(by omega)(.int .i64 7)(.int .i64 0)(stv [])(.slice(some⟨w6.heap.size,0,none⟩) 1 1)(.int .i64 x.a)).low(by omega);obtain⟨z0,z1,z2,z3,z4,zf⟩:=am ZF;obtain⟨u0,u1,u2,u3,u4,-⟩:=am ZE;obtain⟨y00,y01,y02,y03,y04,y0f⟩:=am Y4_6;have FIN:=HX;clear HX ZE ZF KF RF NS K6 Z6 h6 Y4_6 S4a_6;go_wp2;exact bodyPost_ret(v:=exV⟨7,0,[],x.a,(one x4)⟩(some⟨w6.heap.size,0,none⟩) 1)(by simp[results,Tryz.results64,go_sem,u0,u1,u2,u3,u4,exV];rfl) rfl⟨_,_,_,_,rfl,SE,RE,KE,FIN⟩
 ·have EQ:∀ ts,(.inr(x::r):Sq)=.inr ts->dc rec [110,111,116] 7 3 o q ts=rec 4 o q ts:=fun ts hs=>by
   cases hs
   show(if x.t=[110,111,116] then _ else _)=_
   rw[if_neg hx]
  have HN:=hn.congr EQ;have HC:Hid(∀ X st',Qd(rec 4 o q)(.inr(x::r)) X st'->Qd(dc rec [110,111,116] 7 3 o q)(.inr(x::r)) X st'):=fun X st' q=>q.congr fun ts hs=>(EQ ts hs).symm;rw[show isS [110,111,116](.inr(x::r))=false by simp[isS,hx]] at c0;clear EQ hx hn;go_enter Tryz.func64,Tryz.ntmps64;go_wp2_with fail;refine c0.mono ?_;rintro e w1⟨rfl,b1⟩;clear c0;have k1:=au.ofBelow(rb:=rb) b1;have h1:=h0.below b1;clear b1 h0;have Z1:=k1.blk Z0(by have:=K0.size;omega);have K1:=K0.trans k1;clear K0 Z0;have c2:=R _ rb all 4 o q _ TI(by omega)(by omega) h1 HN;go_wp2_with fail;refine c2.mono ?_;rintro e w2⟨x2,ao2,cap2,st2,rfl,S2,h2,k2,Q2⟩;have HX:=HC.out _ _ Q2;clear c2 Q2;have S2a:=S2.low(show(w.heap.size+1)<=_ from(by have:=lt_of_block Z1;omega));clear S2;have Z2:=k2.blk Z1(by have:=K1.size;omega);have K2:=K1.trans k2;clear K1 Z1;have KE:=K2.set5(b:=w.heap.size)(by omega)(.int .i64 x2.k)(.int .i64 x2.n)(stv x2.nm)(.slice ao2 x2.kids.len cap2)(.int .i64 x2.a);have RE:=h2.set5(b:=w.heap.size)(by omega)(.int .i64 x2.k)(.int .i64 x2.n)(stv x2.nm)(.slice ao2 x2.kids.len cap2)(.int .i64 x2.a);have ZE:=bG(.int .i64 x2.k)(.int .i64 x2.n)(stv x2.nm)(.slice ao2 x2.kids.len cap2)(.int .i64 x2.a) Z2;have SE:Sl _(Nw w.heap.size) _ _:=(S2a.set5(b:=w.heap.size)(by omega)(.int .i64 x2.k)(.int .i64 x2.n)(stv x2.nm)(.slice ao2 x2.kids.len cap2)(.int .i64 x2.a)).low(by omega);obtain⟨z0,z1,z2,z3,z4,zf⟩:=am Z2;obtain⟨u0,u1,u2,u3,u4,-⟩:=am ZE;have FIN:=HX;clear ZE K2 Z2 h2 S2a;rw[aq];go_wp2;exact bodyPost_ret(v:=exV x2 ao2 cap2)(by simp[results,Tryz.results64,go_sem,u0,u1,u2,u3,u4,exV]) rfl⟨_,_,_,_,rfl,SE,RE,KE,FIN⟩
def Dj (rec:Rdr):Prop :=
 ∀ (w:World)(rb:Nat)(all:List Tk)(o q:Nat)(x:Tk)(r:List Tk),(∀ x,x ∈ all->ey x)->QS w rb all o q(.inr(x::r))->Nou(rec 8 o q)(.inr(x::r))->Calls Tryz.prog 130 #[.pointer(some⟨rb,0,none⟩)] w(dm rb all o q w(.inr(x::r))(rec 8 o q))
theorem Af {rec:Rdr}(R:jt rec)(RA:Dj rec){w:World}{rb o q:Nat}{all:List Tk}{x:Tk}{r:List Tk}(TI:∀ x,x ∈ all->ey x)(h:QS w rb all o q (.inr (x::r)))(hn:Nou (dc rec [45] 6 7 o q) (.inr (x::r))) :
  Calls Tryz.prog 65 #[.pointer(some⟨rb,0,none⟩)] w(dm rb all o q w(.inr(x::r))(dc rec [45] 6 7 o q)):=by
 have hrb:=h.lt;have K0:au rb w(w.alloc exZ):=(au.refl rb w).alloc _;have Z0:(w.alloc exZ).heap[w.heap.size]?=some exZ:=heap_alloc_new w _;have h0:=h.alloc exZ;have hs1:w.heap.size<(w.alloc exZ).heap.size:=by simp
 have c0:=rZ TI [45](by decide)(by decide) h0;by_cases hx:x.t=[45]
 ·have EQ:∀ ts,(.inr(x::r):Sq)=.inr ts->dc rec [45] 6 7 o q ts=(fun ts=>(aG [45] o ts).bind fun a t1=>(rec 7(o+1) q t1).bind fun kid t2=>.ok⟨6,0,[],(a:Nat),one kid⟩ t2) ts:=fun ts hs=>by
   cases hs
   show(if x.t=[45] then _ else _)=(aG [45] o(x::r)).bind _
   by_cases h64:o=64
   ·simp[aG,hx,h64,Rs.bind]
   ·simp[aG,hx,h64,Rs.bind]
  have C0:=Ctx.start(hn.congr EQ);have HC:Hid(∀ X st',Qd(fun ts=>(aG [45] o ts).bind fun a t1=>(rec 7(o+1) q t1).bind fun kid t2=>.ok⟨6,0,[],(a:Nat),one kid⟩ t2)(.inr(x::r)) X st'->Qd(dc rec [45] 6 7 o q)(.inr(x::r)) X st'):=fun X st' q=>q.congr fun ts hs=>(EQ ts hs).symm;have q0:=ji(o:=o)(x:=x)(r:=r) [45];have C1:=C0.step q0;have c1:=fun(wx:World)(hh:QS wx rb all o q(.inr(x::r)))=>ot [45](by decide) hx hh;rw[show isS [45](.inr(x::r))=true by simp[isS,hx]] at c0;generalize onw(aG [45] o)(.inr(x::r))=st1 at *;clear C0 q0 hn EQ hx;go_enter Tryz.func65,Tryz.ntmps65;go_wp2_with fail;refine c0.mono ?_;rintro e w1⟨rfl,b1⟩;clear c0;have k1:=au.ofBelow(rb:=rb) b1;have h1:=h0.below b1;clear b1 h0;have Z1:=k1.blk Z0(by have:=K0.size;omega);have K1:=K0.trans k1;clear K0 Z0;obtain⟨i,g,cap,L,hg,hi,hcL,hcap,hL,hm,d0,d1,-,-,-,⟨-,-,-,t3⟩,hf⟩:=h1.ok;have hiI:(i:Int)<(L:Int):=by omega
  go_wp2_with fail
  go_quiet(fail)
  have b2:Below w1.heap.size w1(w1.drewN nq):=bdr(Below.refl _ _) nq;have h2:=h1.below b2;have k2:=au.ofBelow(rb:=rb) b2;generalize w1.drewN nq=w2 at *;clear b2 h1 d0 d1 t3 hf hm;have Z2:=k2.blk Z1(by have:=K1.size;omega);have K2:=K1.trans k2;clear K1 Z1;have c3:=c1 _ h2;clear c1;go_wp2_with fail;refine c3.mono ?_;rintro e w3⟨rfl,h3,k3⟩;clear c3;have Z3:=k3.blk Z2(by have:=K2.size;omega);have K3:=K2.trans k3;clear K2 Z2;have c4:=R _ rb all 7(o+1)(q) st1 TI(by omega)(by omega) h3 C1.nou;go_wp2_with fail;refine c4.mono ?_;rintro e w4⟨x4,ao4,cap4,st4,rfl,S4,h4,k4,Q4⟩;have C4:=C1.step Q4;clear c4 Q4 C1;have S4a:=S4.low(show(w.heap.size+1)<=_ from(by have:=lt_of_block Z3;omega));clear S4;have Z4:=k4.blk Z3(by have:=K3.size;omega);have K4:=K3.trans k4;clear K3 Z3;have h4a:=h4.alloc(.cells #[.int .i64 x4.k,.int .i64 x4.n,stv x4.nm,.slice ao4 x4.kids.len cap4,.int .i64 x4.a] 25);have K4a:=K4.alloc(.cells #[.int .i64 x4.k,.int .i64 x4.n,stv x4.nm,.slice ao4 x4.kids.len cap4,.int .i64 x4.a] 25);have Z4a:=(Below.heap_alloc w4(.cells #[.int .i64 x4.k,.int .i64 x4.n,stv x4.nm,.slice ao4 x4.kids.len cap4,.int .i64 x4.a] 25) _(lt_of_block Z4)).trans Z4;have Y4_a:(World.alloc w4(.cells #[.int .i64 x4.k,.int .i64 x4.n,stv x4.nm,.slice ao4 x4.kids.len cap4,.int .i64 x4.a] 25)).heap[w4.heap.size]?=some(.cells #[.int .i64 x4.k,.int .i64 x4.n,stv x4.nm,.slice ao4 x4.kids.len cap4,.int .i64 x4.a] 25):=heap_alloc_new w4 _;have S4a_4b:=S4a.allocN(.cells #[.int .i64 x4.k,.int .i64 x4.n,stv x4.nm,.slice ao4 x4.kids.len cap4,.int .i64 x4.a] 25);have hb4:rb<w4.heap.size:=by have:=K4.size;omega
  clear h4 K4 Z4 S4a;rw[aq];go_upto_region 7 with fail;generalize(World.alloc w4(.cells #[.int .i64 x4.k,.int .i64 x4.n,stv x4.nm,.slice ao4 x4.kids.len cap4,.int .i64 x4.a] 25))=v5 at *;obtain⟨o6,d6,df6,h6⟩:=h4a.down;have k6:au rb v5 _:=au.at v5 2(.int .i64(wrap64(o6-1)));clear h4a;go_upto_region 8 with fail;generalize v5.setCell⟨rb,2,none⟩(.int .i64(wrap64(o6-1)))=w6 at *;clear d6 df6;have Z6:=k6.blk Z4a(by have:=K4a.size;omega);have K6:=K4a.trans k6;have Y4_6:=k6.blk Y4_a(by omega);have S4a_6:=S4a_4b.keepN k6(by omega);clear K4a Z4a Y4_a S4a_4b;have HX:=HC.out _ _ C4.fin;have NS:Sl(World.alloc w6(.cells [.int .i64 x4.k,.int .i64 x4.n,stv x4.nm,.slice ao4 x4.kids.len cap4,.int .i64 x4.a].toArray 25))(Nw(w.heap.size+1))(one x4)(some⟨w6.heap.size,0,none⟩):=Sl.fresh _ 25(Fc.one(e:=x4) cap4 S4a_6)(by have:=lt_of_block Z6;omega);have KF:=K6.alloc(.cells [.int .i64 x4.k,.int .i64 x4.n,stv x4.nm,.slice ao4 x4.kids.len cap4,.int .i64 x4.a].toArray 25);have RF:=h6.alloc(.cells [.int .i64 x4.k,.int .i64 x4.n,stv x4.nm,.slice ao4 x4.kids.len cap4,.int .i64 x4.a].toArray 25);have ZF:=(Below.heap_alloc w6(.cells [.int .i64 x4.k,.int .i64 x4.n,stv x4.nm,.slice ao4 x4.kids.len cap4,.int .i64 x4.a].toArray 25) _(lt_of_block Z6)).trans Z6;have KE:=KF.set5(b:=w.heap.size)(by omega)(.int .i64 6)(.int .i64 0)(stv [])(.slice(some⟨w6.heap.size,0,none⟩) 1 1)(.int .i64 x.a);have RE:=RF.set5(b:=w.heap.size)(by omega)(.int .i64 6)(.int .i64 0)(stv [])(.slice(some⟨w6.heap.size,0,none⟩) 1 1)(.int .i64 x.a);have ZE:=bG(.int .i64 6)(.int .i64 0)(stv [])(.slice(some⟨w6.heap.size,0,none⟩) 1 1)(.int .i64 x.a) ZF;have SE:Sl _(Nw w.heap.size) _ _:=(NS.set5(b:=w.heap.size)(by omega)(.int .i64 6)(.int .i64 0)(stv [])(.slice(some⟨w6.heap.size,0,none⟩) 1 1)(.int .i64 x.a)).low(by omega);obtain⟨z0,z1,z2,z3,z4,zf⟩:=am ZF;obtain⟨u0,u1,u2,u3,u4,-⟩:=am ZE;obtain⟨y00,y01,y02,y03,y04,y0f⟩:=am Y4_6;have FIN:=HX;clear HX ZE ZF KF RF NS K6 Z6 h6 Y4_6 S4a_6;go_wp2;exact bodyPost_ret(v:=exV⟨6,0,[],x.a,(one x4)⟩(some⟨w6.heap.size,0,none⟩) 1)(by simp[results,Tryz.results65,go_sem,u0,u1,u2,u3,u4,exV];rfl) rfl⟨_,_,_,_,rfl,SE,RE,KE,FIN⟩
 ·have EQ:∀ ts,(.inr(x::r):Sq)=.inr ts->dc rec [45] 6 7 o q ts=rec 8 o q ts:=fun ts hs=>by
   cases hs
   show(if x.t=[45] then _ else _)=_
   rw[if_neg hx]
  have HN:=hn.congr EQ;have HC:Hid(∀ X st',Qd(rec 8 o q)(.inr(x::r)) X st'->Qd(dc rec [45] 6 7 o q)(.inr(x::r)) X st'):=fun X st' q=>q.congr fun ts hs=>(EQ ts hs).symm;rw[show isS [45](.inr(x::r))=false by simp[isS,hx]] at c0;clear EQ hx hn;go_enter Tryz.func65,Tryz.ntmps65;go_wp2_with fail;refine c0.mono ?_;rintro e w1⟨rfl,b1⟩;clear c0;have k1:=au.ofBelow(rb:=rb) b1;have h1:=h0.below b1;clear b1 h0;have Z1:=k1.blk Z0(by have:=K0.size;omega);have K1:=K0.trans k1;clear K0 Z0;have c2:=RA _ rb all o q _ _ TI h1 HN;go_wp2_with fail;refine c2.mono ?_;rintro e w2⟨x2,ao2,cap2,st2,rfl,S2,h2,k2,Q2⟩;have HX:=HC.out _ _ Q2;clear c2 Q2;have S2a:=S2.low(show(w.heap.size+1)<=_ from(by have:=lt_of_block Z1;omega));clear S2;have Z2:=k2.blk Z1(by have:=K1.size;omega);have K2:=K1.trans k2;clear K1 Z1;have KE:=K2.set5(b:=w.heap.size)(by omega)(.int .i64 x2.k)(.int .i64 x2.n)(stv x2.nm)(.slice ao2 x2.kids.len cap2)(.int .i64 x2.a);have RE:=h2.set5(b:=w.heap.size)(by omega)(.int .i64 x2.k)(.int .i64 x2.n)(stv x2.nm)(.slice ao2 x2.kids.len cap2)(.int .i64 x2.a);have ZE:=bG(.int .i64 x2.k)(.int .i64 x2.n)(stv x2.nm)(.slice ao2 x2.kids.len cap2)(.int .i64 x2.a) Z2;have SE:Sl _(Nw w.heap.size) _ _:=(S2a.set5(b:=w.heap.size)(by omega)(.int .i64 x2.k)(.int .i64 x2.n)(stv x2.nm)(.slice ao2 x2.kids.len cap2)(.int .i64 x2.a)).low(by omega);obtain⟨z0,z1,z2,z3,z4,zf⟩:=am Z2;obtain⟨u0,u1,u2,u3,u4,-⟩:=am ZE;have FIN:=HX;clear ZE K2 Z2 h2 S2a;rw[aq];go_wp2;exact bodyPost_ret(v:=exV x2 ao2 cap2)(by simp[results,Tryz.results65,go_sem,u0,u1,u2,u3,u4,exV]) rfl⟨_,_,_,_,rfl,SE,RE,KE,FIN⟩
theorem QS.bad {w:World}{rb o q er a:Nat}{all:List Tk}(h:QS w rb all o q (.inl (er,a))):((er:Int)==0)=false/\w.cell? ⟨rb,4,none⟩=some (.int .i64 (er:Nat))/\(∀ o' q':Nat,QS w rb all o' q' (.inl (er,a))):=by
 obtain⟨i,o',q',h1,h2,h3⟩:=h;obtain⟨_,_,_,_,_,_,_,_,_,_,_,c4,_,hf0⟩:=h1.next(List.getElem?_eq_getElem h2);exact⟨by simp;omega,c4,fun _ _=>⟨i,o',q',h1,h2,h3⟩⟩
theorem Qd.bad {α:Type}(f:List Tk->Rs α)(ea:Nat × Nat)(X:α):Qd f (.inl ea) X (.inl ea):=⟨rfl,fun ts y t hs=>by cases hs⟩
theorem tZ {w:World}{rb o q row er a:Nat}{all:List Tk}(f:List Tk->Rs Ex)(h:QS w rb all o q (.inl (er,a))) :
  Calls Tryz.prog 34 #[.pointer(some⟨rb,0,none⟩),.int .i64(row:Nat)] w(dm rb all o q w(.inl(er,a)) f):=by
 have hrb:=h.lt;have h0:=h.alloc exZ;have K0:au rb w(w.alloc exZ):=(au.refl rb w).alloc _;have Z0:(w.alloc exZ).heap[w.heap.size]?=some exZ:=heap_alloc_new w _;obtain⟨hb,c4,-⟩:=h0.bad;have hb2:((er:Int) != 0)=true:=by rw[_root_.bne,hb];rfl
 have FIN:Hid(∀ wx st',(QS wx rb all o q st'/\au rb w wx/\st'=.inl(er,a))->dm rb all o q w(.inl(er,a)) f(.returned(exV da none 0)) wx):=fun wx st' hh=>⟨da,none,0,st',rfl,Sl.nil _ _ _,hh.1,hh.2.1,by rw[hh.2.2];exact Qd.bad f _ _⟩;obtain⟨z0,z1,z2,z3,z4,zf⟩:=am Z0;go_enter Tryz.func34,Tryz.ntmps34;go_wp2;exact bodyPost_ret(v:=exV da none 0)(by simp[results,Tryz.results34,go_sem,exV,da,Fs.len]) rfl(FIN.out _ _⟨h0,K0,rfl⟩)
theorem QS.e0 {w:World}{rb o q:Nat}{all:List Tk}{ts:List Tk}(h:QS w rb all o q (.inr ts)):w.cell? ⟨rb,4,none⟩=some (.int .i64 0):=by
 match ts,h with
 | [],h=>exact absurd rfl h.le.2.2.ne
 | x::r,h =>
  obtain⟨i,g,cap,L,hg,hi,hcL,hcap,hL,hm,d0,d1,d2,d3,d4,-⟩:=h.ok;exact d4
theorem DK {rec:Rdr}(R:jt rec){w:World}{rb o q:Nat}{all:List Tk}{x:Tk}{r:List Tk}(TI:∀ x,x ∈ all->ey x)(h:QS w rb all o q (.inr (x::r)))(hn:Nou (dc rec [110,111,116] 7 3 o q) (.inr (x::r))) :
  Calls Tryz.prog 34 #[.pointer(some⟨rb,0,none⟩),.int .i64 3] w(dm rb all o q w(.inr(x::r))(dc rec [110,111,116] 7 3 o q)):=by
 have hrb:=h.lt;have K0:au rb w(w.alloc exZ):=(au.refl rb w).alloc _;have Z0:(w.alloc exZ).heap[w.heap.size]?=some exZ:=heap_alloc_new w _;have h0:=h.alloc exZ;have d4:=h0.e0;have hs1:w.heap.size<(w.alloc exZ).heap.size:=by simp
 have c1:=Eh R TI h0 hn;clear hn;go_enter Tryz.func34,Tryz.ntmps34;go_wp2_with fail;refine c1.mono ?_;rintro e w1⟨x1,ao1,cap1,st1,rfl,S1,h1,k1,Q1⟩;clear c1 h0 d4;have S1a:=S1.low(show(w.heap.size+1)<=_ from(by omega));clear S1;have Z1:=k1.blk Z0(by have:=K0.size;omega);have K1:=K0.trans k1;clear K0 Z0;have KE:=K1.set5(b:=w.heap.size)(by omega)(.int .i64 x1.k)(.int .i64 x1.n)(stv x1.nm)(.slice ao1 x1.kids.len cap1)(.int .i64 x1.a);have RE:=h1.set5(b:=w.heap.size)(by omega)(.int .i64 x1.k)(.int .i64 x1.n)(stv x1.nm)(.slice ao1 x1.kids.len cap1)(.int .i64 x1.a);have ZE:=bG(.int .i64 x1.k)(.int .i64 x1.n)(stv x1.nm)(.slice ao1 x1.kids.len cap1)(.int .i64 x1.a) Z1;have SE:Sl _(Nw w.heap.size) _ _:=(S1a.set5(b:=w.heap.size)(by omega)(.int .i64 x1.k)(.int .i64 x1.n)(stv x1.nm)(.slice ao1 x1.kids.len cap1)(.int .i64 x1.a)).low(by omega);obtain⟨z0,z1,z2,z3,z4,zf⟩:=am Z1;obtain⟨u0,u1,u2,u3,u4,-⟩:=am ZE;have FIN:=Q1;clear ZE K1 Z1 h1 S1a;rw[aq];go_wp2;exact bodyPost_ret(v:=exV x1 ao1 cap1)(by simp[results,Tryz.results34,go_sem,u0,u1,u2,u3,u4,exV]) rfl⟨_,_,_,_,rfl,SE,RE,KE,FIN⟩
theorem Ec {rec:Rdr}(R:jt rec)(RA:Dj rec){w:World}{rb o q:Nat}{all:List Tk}{x:Tk}{r:List Tk}(TI:∀ x,x ∈ all->ey x)(h:QS w rb all o q (.inr (x::r)))(hn:Nou (dc rec [45] 6 7 o q) (.inr (x::r))) :
  Calls Tryz.prog 34 #[.pointer(some⟨rb,0,none⟩),.int .i64 7] w(dm rb all o q w(.inr(x::r))(dc rec [45] 6 7 o q)):=by
 have hrb:=h.lt;have K0:au rb w(w.alloc exZ):=(au.refl rb w).alloc _;have Z0:(w.alloc exZ).heap[w.heap.size]?=some exZ:=heap_alloc_new w _;have h0:=h.alloc exZ;have d4:=h0.e0;have hs1:w.heap.size<(w.alloc exZ).heap.size:=by simp
 have c1:=Af R RA TI h0 hn;clear hn;go_enter Tryz.func34,Tryz.ntmps34;go_wp2_with fail;refine c1.mono ?_;rintro e w1⟨x1,ao1,cap1,st1,rfl,S1,h1,k1,Q1⟩;clear c1 h0 d4;have S1a:=S1.low(show(w.heap.size+1)<=_ from(by omega));clear S1;have Z1:=k1.blk Z0(by have:=K0.size;omega);have K1:=K0.trans k1;clear K0 Z0;have KE:=K1.set5(b:=w.heap.size)(by omega)(.int .i64 x1.k)(.int .i64 x1.n)(stv x1.nm)(.slice ao1 x1.kids.len cap1)(.int .i64 x1.a);have RE:=h1.set5(b:=w.heap.size)(by omega)(.int .i64 x1.k)(.int .i64 x1.n)(stv x1.nm)(.slice ao1 x1.kids.len cap1)(.int .i64 x1.a);have ZE:=bG(.int .i64 x1.k)(.int .i64 x1.n)(stv x1.nm)(.slice ao1 x1.kids.len cap1)(.int .i64 x1.a) Z1;have SE:Sl _(Nw w.heap.size) _ _:=(S1a.set5(b:=w.heap.size)(by omega)(.int .i64 x1.k)(.int .i64 x1.n)(stv x1.nm)(.slice ao1 x1.kids.len cap1)(.int .i64 x1.a)).low(by omega);obtain⟨z0,z1,z2,z3,z4,zf⟩:=am Z1;obtain⟨u0,u1,u2,u3,u4,-⟩:=am ZE;have FIN:=Q1;clear ZE K1 Z1 h1 S1a;rw[aq];go_wp2;exact bodyPost_ret(v:=exV x1 ao1 cap1)(by simp[results,Tryz.results34,go_sem,u0,u1,u2,u3,u4,exV]) rfl⟨_,_,_,_,rfl,SE,RE,KE,FIN⟩
theorem Ctx.eat {β:Type}{F:List Tk->Rs β}{st0:Sq}{G H:List Tk->Rs β}{x:Tk}{r:List Tk}(h:Ctx F st0 G (.inr (x::r)))(e:G (x::r)=H r):Ctx F st0 H (.inr r):=by
 refine⟨fun ts hs e2=>h.1(x::r) rfl(by cases hs;rw[e];exact e2),fun X st' q=>h.2 X st'⟨?_,?_⟩⟩
 ·rw[q.1];simp only[onw];rw[e]
 ·intro ts y t hs hy;cases hs;exact q.2 r y t rfl(by rw[<-e];exact hy)
theorem Ctx.congr {β:Type}{F:List Tk->Rs β}{st0 st:Sq}{G H:List Tk->Rs β}(h:Ctx F st0 G st)(e:∀ ts,st=.inr ts->G ts=H ts):Ctx F st0 H st:=⟨h.1.congr e,fun X st' q=>h.2 X st' (q.congr fun ts hs=>(e ts hs).symm)⟩
theorem As {row:Nat}(hr:row=1\/row=2\/row=4\/row=5\/row=6){x:Tk}{r:List Tk}(h:vv x.t row=none):eJ (sgW row) (.inr (x::r))=-1:=by
 have hn:∀ s,s ∈ sgW row->¬x.t=s:=fun s hs e=>by
  rw[e] at h;rcases hr with rfl|rfl|rfl|rfl|rfl<;>simp only[sgW,List.mem_cons,List.not_mem_nil,or_false] at hs
  all_goals(rcases hs with rfl|rfl|rfl|rfl)<;>revert h<;>decide
 exact oY fun j t hj ht=>by
  have:=hn t(List.mem_of_getElem? ht)
  simpa [isS] using this
theorem At {row:Nat}(hr:row=1\/row=2\/row=4\/row=5\/row=6){x:Tk}{r:List Tk}{z:List UInt8 × Nat × Nat × Nat × Nat}(h:vv x.t row=some z) :
  ∃i k:Nat,eJ(sgW row)(.inr(x::r))=(i:Nat)/\(sgK row)[i]?=some k/\i<(sgW row).length/\z.2.1=k/\z.2.2.2.2=row+1/\(row<z.2.2.2.1 ↔ row=4)/\x.t≠[]:=by
 have hz:z ∈ eB:=List.mem_of_find?_eq_some h;have hp:=List.find?_some h;simp only[Bool.and_eq_true,beq_iff_eq] at hp;obtain⟨h1,h2⟩:=hp;simp only[eB,List.mem_cons,List.not_mem_nil,or_false] at hz;have key:∀ (L:List(List UInt8))(i:Nat),L[i]?=some x.t->(∀ j t,j<i->L[j]?=some t->t≠x.t)->eJ L(.inr(x::r))=(i:Nat):=fun L i hi hj=>oM hi(by simp[isS]) fun j t hl ht=>by
  have:=hj j t hl ht
  simp only[isS,beq_eq_false_iff_ne];exact fun e=>this e.symm
 rcases hz with rfl|rfl|rfl|rfl|rfl|rfl|rfl|rfl|rfl|rfl|rfl<;>simp only at h1 h2<;>subst h2
 ·exact⟨0,18,key _ 0(by rw[<-h1];rfl)(by omega),rfl,by decide,rfl,rfl,by decide,by rw[<-h1];decide⟩
 ·exact⟨0,17,key _ 0(by rw[<-h1];rfl)(by omega),rfl,by decide,rfl,rfl,by decide,by rw[<-h1];decide⟩
 ·exact⟨0,13,key _ 0(by rw[<-h1];rfl)(by omega),rfl,by decide,rfl,rfl,by decide,by rw[<-h1];decide⟩
 ·exact⟨1,14,key _ 1(by rw[<-h1];rfl)(fun j t hj ht=>by rw[<-h1];(obtain rfl:j=0:=by omega);simp[sgW] at ht;subst ht;decide),rfl,by decide,rfl,rfl,by decide,by rw[<-h1];decide⟩
 ·exact⟨3,15,key _ 3(by rw[<-h1];rfl)(fun j t hj ht=>by rw[<-h1];(obtain rfl|rfl|rfl:j=0\/j=1\/j=2:=by omega)<;>simp[sgW] at ht<;>subst ht<;>decide),rfl,by decide,rfl,rfl,by decide,by rw[<-h1];decide⟩
 ·exact⟨2,16,key _ 2(by rw[<-h1];rfl)(fun j t hj ht=>by rw[<-h1];(obtain rfl|rfl:j=0\/j=1:=by omega)<;>simp[sgW] at ht<;>subst ht<;>decide),rfl,by decide,rfl,rfl,by decide,by rw[<-h1];decide⟩
 ·exact⟨0,8,key _ 0(by rw[<-h1];rfl)(by omega),rfl,by decide,rfl,rfl,by decide,by rw[<-h1];decide⟩
 ·exact⟨1,9,key _ 1(by rw[<-h1];rfl)(fun j t hj ht=>by rw[<-h1];(obtain rfl:j=0:=by omega);simp[sgW] at ht;subst ht;decide),rfl,by decide,rfl,rfl,by decide,by rw[<-h1];decide⟩
 ·exact⟨0,10,key _ 0(by rw[<-h1];rfl)(by omega),rfl,by decide,rfl,rfl,by decide,by rw[<-h1];decide⟩
 ·exact⟨1,11,key _ 1(by rw[<-h1];rfl)(fun j t hj ht=>by rw[<-h1];(obtain rfl:j=0:=by omega);simp[sgW] at ht;subst ht;decide),rfl,by decide,rfl,rfl,by decide,by rw[<-h1];decide⟩
 ·exact⟨2,12,key _ 2(by rw[<-h1];rfl)(fun j t hj ht=>by rw[<-h1];(obtain rfl|rfl:j=0\/j=1:=by omega)<;>simp[sgW] at ht<;>subst ht<;>decide),rfl,by decide,rfl,rfl,by decide,by rw[<-h1];decide⟩
theorem Ba (L:List (List UInt8))(ea:Nat × Nat):eJ L (.inl ea)=-1:=oY fun _ _ _ _=>rfl
theorem qy {row:Nat}(hr:row=1\/row=2\/row=4\/row=5\/row=6):(∀ s,s ∈ sgW row->s≠[]/\aX s=false)/\(sgW row).length<=4:=by
 rcases hr with rfl|rfl|rfl|rfl|rfl<;>exact⟨by decide,by decide⟩
theorem blk5 {w:World}{b k:Nat}(hk:k≠b)(b0 b1 b2 b3 b4:Value):(((((w.setCell ⟨b,0,none⟩ b0).setCell ⟨b,1,none⟩ b1).setCell ⟨b,2,none⟩ b2).setCell ⟨b,3,none⟩ b3).setCell ⟨b,4,none⟩ b4).heap[k]?=w.heap[k]?:=by
 rw[heap_setCell_other _⟨b,4,none⟩ k _ hk,heap_setCell_other _⟨b,3,none⟩ k _ hk,heap_setCell_other _⟨b,2,none⟩ k _ hk,heap_setCell_other _⟨b,1,none⟩ k _ hk,heap_setCell_other _⟨b,0,none⟩ k _ hk]
theorem D6 {rec:Rdr}(R:jt rec){w:World}{rb o q m row:Nat}{all:List Tk}{ts:List Tk}(hr:row=1\/row=2\/row=4\/row=5\/row=6)(TI:∀ x,x ∈ all->ey x)(h:QS w rb all o q (.inr ts))(hn:Nou (fun ts=>(rec (row+1) o q ts).bind fun l t=>cU rec m row o q l t) (.inr ts)) :
  Calls Tryz.prog 34 #[.pointer(some⟨rb,0,none⟩),.int .i64(row:Nat)] w(dm rb all o q w(.inr ts)(fun ts=>(rec(row+1) o q ts).bind fun l t=>cU rec m row o q l t)):=by
 have hrb:=h.lt;obtain⟨F,hF⟩:∃F,F=(fun ts=>(rec(row+1) o q ts).bind fun l t=>cU rec m row o q l t):=⟨_,rfl⟩
 have C00:=Ctx.start hn;rw[<-hF];have C0:Ctx F(.inr ts)(fun ts=>(rec(row+1) o q ts).bind fun l t=>cU rec m row o q l t)(.inr ts):=by rw[hF];exact C00
 clear hF hn C00;have K0:au rb w(w.alloc exZ):=(au.refl rb w).alloc _;have Z0:(w.alloc exZ).heap[w.heap.size]?=some exZ:=heap_alloc_new w _;have h0:=h.alloc exZ;have d4:=h0.e0;have hs1:w.heap.size<(w.alloc exZ).heap.size:=by simp
 have r3:((row:Int)==3)=false:=by rcases hr with rfl|rfl|rfl|rfl|rfl<;>rfl
 have r7:((row:Int)==7)=false:=by rcases hr with rfl|rfl|rfl|rfl|rfl<;>rfl
 have r8:1<=row+1/\row+1<=7:=by omega
 obtain⟨n,hnL⟩:∃n,n=(sgW row).length:=⟨_,rfl⟩
 have c1:=sS(w.alloc exZ) row n hr hnL;have HN:Hid(n=(sgW row).length):=hnL;have HR:Hid(row=1\/row=2\/row=4\/row=5\/row=6):=hr;clear hnL hr;go_enter Tryz.func34,Tryz.ntmps34;go_wp2_with fail;refine c1.mono ?_;rintro e w1⟨g1,g2,rfl,sg⟩;have k1:=au.ofBelow(rb:=rb) sg.1.1;have h1:=h0.below sg.1.1;have SG:Hid(g1<w1.heap.size/\g2<w1.heap.size/\rb<g1/\rb<g2/\(∀ j s,(sgW row)[j]?=some s->w1.cell?⟨g1,j,none⟩=some(stv s))/\∀ j k,(sgK row)[j]?=some k->w1.cell?⟨g2,j,none⟩=some(.int .i64(k:Nat))):=⟨sg.1.2.2.1,sg.2.2.1,by have:=sg.1.2.1;omega,by have:=sg.2.1;omega,sg.1.2.2.2,sg.2.2.2⟩
 have Z1:=k1.blk Z0(by omega);have K1:=K0.trans k1;have hz1:w.heap.size<w1.heap.size:=lt_of_block Z1;have c2:=R w1 rb all(row+1) o q _ TI r8.1 r8.2 h1 C0.nou;rw[show((row+1:Nat):Int)=(row:Int)+1 by omega] at c2;clear c1 sg k1 h0 d4 hs1 K0 Z0;have hrw:(row:Int)<=7:=by omega
 go_wp2_with fail;refine c2.mono ?_;rintro e w2⟨x2,ao2,cap2,st2,rfl,S2,h2,k2,Q2⟩;have C2:=C0.step Q2;have Z2:=k2.blk Z1(by omega);have K2:=K1.trans k2;have S2a:=S2.low(show w.heap.size+1<=w1.heap.size by omega);have hz2:w.heap.size<w2.heap.size:=lt_of_block Z2;have h3:=h2.alloc(bxE x2 ao2 cap2);have K3:=K2.alloc(bxE x2 ao2 cap2);have k3:au rb w1(w2.alloc(bxE x2 ao2 cap2)):=k2.alloc _;have Z3:=(Below.heap_alloc w2(bxE x2 ao2 cap2) _(lt_of_block Z2)).trans Z2;have L3:(w2.alloc(bxE x2 ao2 cap2)).heap[w2.heap.size]?=some(bxE x2 ao2 cap2):=heap_alloc_new w2 _;have S3:=(S2a.toB'(Nat.le_refl _)).allocB(bxE x2 ao2 cap2);obtain⟨bl,hbl⟩:∃bl,bl=w2.heap.size:=⟨_,rfl⟩
 rw[<-hbl] at S3 L3 hz2;have HBL:Hid(bl=w2.heap.size):=hbl;have hg1:g1<(w2.alloc(bxE x2 ao2 cap2)).heap.size:=by have:=SG.out.1;have:=k3.size;omega
 have c3:=fN TI(sgW row)(qy HR.out).1 h3 HN.out hg1(fun j s hj=>(k3.cell SG.out.1(by have:=SG.out.2.2.1;omega) j).trans(SG.out.2.2.2.2.1 j s hj))(Nat.le_refl n)(by have:=(qy HR.out).2;have:=HN.out;unfold maxLen;omega);have hw1:w1.heap.size<=bl:=by rw[hbl];exact k2.size
 clear c2 Q2 C0 K1 Z1 S2 S2a h1 h2 k2 Z2 K2 hbl hg1 hz1;rw[aq];go_wp2_with fail;refine c3.mono ?_;rintro e w4⟨rfl,b4⟩;rw[<-HBL.out];clear c3 HBL;have k4:=au.ofBelow(rb:=rb) b4;have h4:=h3.below b4;have Z4:=k4.blk Z3(by omega);have L4:=k4.blk L3(by omega);have S4:=S3.keepB k4(by omega);have K4:=K3.trans k4;have KS4:=k3.trans k4;clear k4 b4 k3 h3 Z3 L3 S3 K3;go_wp2_with fail;go_loopg [8] m(fun g v wr=>∃st left ao cap,v=.int .i64(eJ(sgW row) st)/\Ctx F(.inr ts)(fun t=>cU rec g row o q left t) st/\wr.heap[bl]?=some(.cells #[.int .i64 left.k,.int .i64 left.n,stv left.nm,.slice ao left.kids.len cap,.int .i64 left.a] 25(0,0))/\Sl wr(Nb(w.heap.size+1) bl) left.kids ao/\QS wr rb all o q st/\au rb w wr/\au rb w1 wr/\wr.heap[w.heap.size]?=some(.cells #[.int .i64 0,.int .i64 0,.string⟨#[]⟩,.slice none 0 0,.int .i64 0] 25(0,0)))
 case atStart=>exact⟨st2,x2,ao2,cap2,rfl,C2,L4,S4,h4,K4,KS4,Z4⟩
 case round =>
  clear C2 L4 S4 h4 K4 KS4 Z4;obtain⟨st,left,ao,cap,rfl,C,L5,S5,h5,K5,KS5,Z5⟩:=hrel;have key:Hid(eJ(sgW row) st=-1/\Qd F(.inr ts) left st)\/∃x r g' z,gk=g'+1/\st=.inr(x::r)/\vv x.t row=some z:=by
   match st,C,h5 with
   | .inl ea,C,h5=>exact .inl⟨Ba _ _,C.2 _ _(Qd.bad _ _ _)⟩
   | .inr [],C,h5=>exact absurd rfl h5.le.2.2.ne
   | .inr(x::r),C,h5 =>
    cases gk with
    | zero=>exact absurd rfl(C.1 _ rfl)
    | succ g' =>
     cases hz:vv x.t row with
     | none =>
      refine .inl⟨As HR.out hz,C.2 _ _⟨?_,?_⟩⟩
      ·simp only[onw,cU,hz,stp]
      ·intro ts y t hs hy;cases hs;simp only[cU,hz] at hy;exact(Rs.ok_inj hy).1
     | some z=>exact .inr⟨x,r,g',z,rfl,rfl,hz⟩
  rcases key with FIN|⟨x,r,g',z,rfl,rfl,hz⟩
  ·obtain⟨hk,FIN⟩:=FIN.out;have HF:Hid(Qd F(.inr ts) left st):=FIN;rw[hk];have KE:=K5.set5(b:=w.heap.size)(by omega)(.int .i64 left.k)(.int .i64 left.n)(stv left.nm)(.slice ao left.kids.len cap)(.int .i64 left.a);have RE:=h5.set5(b:=w.heap.size)(by omega)(.int .i64 left.k)(.int .i64 left.n)(stv left.nm)(.slice ao left.kids.len cap)(.int .i64 left.a);have ZE:=bG(.int .i64 left.k)(.int .i64 left.n)(stv left.nm)(.slice ao left.kids.len cap)(.int .i64 left.a) Z5;have SE:Sl _(Nw w.heap.size) _ _:=(S5.set5B(b:=w.heap.size)(.inr(by omega))(.int .i64 left.k)(.int .i64 left.n)(stv left.nm)(.slice ao left.kids.len cap)(.int .i64 left.a)).lowB(by omega);obtain⟨z0,z1,z2,z3,z4,zf⟩:=am Z5;obtain⟨v0,v1,v2,v3,v4,vf⟩:=am L5;obtain⟨u0,u1,u2,u3,u4,-⟩:=am ZE;clear C FIN hk h5 K5 KS5 Z5 L5 S5 ZE;go_wp2;exact bodyPost_ret(v:=exV left ao cap)(by simp[results,Tryz.results34,go_sem,u0,u1,u2,u3,u4,exV]) rfl⟨_,_,_,_,rfl,SE,RE,KE,HF.out⟩
  ·obtain⟨i,k,hi,hk,hil,hzk,hzr,hz4,hxt⟩:=At(r:=r) HR.out hz;obtain⟨z1,z2,z3,z4,z5⟩:=z;simp only at hzk hzr hz4;subst hzk hzr;have CE:=C.eat(H:=fun t=>(rec(row+1) o q t).bind fun right t2=>if row<z4 then .ok⟨(z2:Nat),0,[],x.a,(one left).snoc right⟩ t2 else cU rec g' row o q⟨(z2:Nat),0,[],x.a,(one left).snoc right⟩ t2)(by simp only[cU,hz]);rw[hi];have HK:Hid((sgK row)[i]?=some z2):=hk;have H4:Hid(row<z4 ↔ row=4):=hz4;obtain⟨i2,g,cap3,L,hg,hi2,hcL,hcap,hL,hm,d0,d1,-,-,d4,⟨-,-,-,t3⟩,hf⟩:=h5.ok;have hiI:(i2:Int)<(L:Int):=by omega
   have hi9:i<4:=by have:=(qy HR.out).2;omega
   have hin:i<n:=by rw[HN.out];exact hil
   have hinI:(i:Int)<(n:Int):=by omega
   have hn4:n<=4:=by have:=(qy HR.out).2;have:=HN.out;omega
   clear C hz hi hk hz4 hil;go_wp2_with fail
   go_quiet(fail)
   have b6:Below wr.heap.size wr(wr.drewN nq):=bdr(Below.refl _ _) nq;have k6:=au.ofBelow(rb:=rb) b6;have h6:=h5.below b6;generalize wr.drewN nq=w6 at *;have Z6:=k6.blk Z5(by omega);have L6:=k6.blk L5(by omega);have S6:=S5.keepB k6(by omega);have K6:=K5.trans k6;have KS6:=KS5.trans k6;clear b6 k6 h5 Z5 L5 S5 K5 KS5 d0 d1 d4 t3 hf hm;obtain⟨i3,g3,cap4,L4,hg3,hi3,hcL3,hcap3,hL3,hm3,-,d1,-,-,-,-,hf⟩:=h6.ok;have h7:=h6.over(.inl hxt) d1;have k7:=au.at(rb:=rb) w6 1(.int .i64((i3:Int)+1));go_upto_region 13 with fail;generalize w6.setCell⟨rb,1,none⟩(.int .i64((i3:Int)+1))=w7 at *;have Z7:=k7.blk Z6(by omega);have L7:=k7.blk L6(by omega);have S7:=S6.keepB k7(by omega);have K7:=K6.trans k7;have KS7:=KS6.trans k7;clear k7 h6 Z6 L6 S6 K6 KS6 d1 hf hm3;have c8:=R w7 rb all(row+1) o q _ TI r8.1 r8.2 h7 CE.nou;rw[show((row+1:Nat):Int)=(row:Int)+1 by omega] at c8;have hz7:bl<w7.heap.size:=lt_of_block L7;go_wp2_with fail;refine c8.mono ?_;rintro e w8⟨x8,ao8,cap8,st8,rfl,S8,h8,k8,Q8⟩;have C8:=CE.step Q8;have S8b:=S8.toB(n:=w.heap.size+1)(bl:=bl)(by omega) hz7;have Z8:=k8.blk Z7(by omega);have L8:=k8.blk L7(by omega);have S8a:=S7.keepB k8(by omega);have K8:=K7.trans k8;have KS8:=KS7.trans k8;have hz8:bl<w8.heap.size:=lt_of_block L8;clear c8 Q8 CE S8 k8 h7 Z7 L7 S7 K7 KS7 hz7;have h9:=h8.alloc(bxE x8 ao8 cap8);have K9:=K8.alloc(bxE x8 ao8 cap8);have KS9:=KS8.alloc(bxE x8 ao8 cap8);have Z9:=(Below.heap_alloc w8(bxE x8 ao8 cap8) _(lt_of_block Z8)).trans Z8;have L9:=(Below.heap_alloc w8(bxE x8 ao8 cap8) _(lt_of_block L8)).trans L8;have Y9:(w8.alloc(bxE x8 ao8 cap8)).heap[w8.heap.size]?=some(bxE x8 ao8 cap8):=heap_alloc_new w8 _;have S9a:=S8a.allocB(bxE x8 ao8 cap8);have S9b:=S8b.allocB(bxE x8 ao8 cap8);rw[aq];go_upto_region 14 with fail;generalize w8.alloc(bxE x8 ao8 cap8)=w9 at *;generalize w8.heap.size=bb at *;have ck:=(KS9.cell SG.out.2.1(by have:=SG.out.2.2.2.1;omega) i).trans(SG.out.2.2.2.2.2 i z2 HK.out);obtain⟨v0,v1,v2,v3,v4,vf⟩:=am L9;obtain⟨y0,y1,y2,y3,y4,yf⟩:=am Y9;have hbl9:bl<w9.heap.size:=lt_of_block L9;have c10:=fun(wx:World)(hx:wx.heap=w9.heap)=>DO(w:=wx)(P:=Nb(w.heap.size+1) bl) z2(x.a:Nat)(a:=left)(b:=x8)(aoa:=ao)(aob:=ao8)(ca:=cap)(cb:=cap8)(S9a.mono(fun j _ _=>by rw[hx])(by rw[hx];exact Nat.le_refl _)(fun _ h _=>h))(S9b.mono(fun j _ _=>by rw[hx])(by rw[hx];exact Nat.le_refl _)(fun _ h _=>h))(by rw[hx];exact⟨by omega,by omega⟩);unfold exV at c10;have HC10:=Lib.hid c10;clear c10 S8a S8b h8 K8 KS8 Z8 L8;have hbd:bl<w9.drew.heap.size:=hbl9;have L9d:w9.drew.heap[bl]?=some(bxE left ao cap):=L9;go_cut [75](fun v wx=>∃ao10 cap10,wx.heap[bl]?=some(.cells #[.int .i64(z2:Nat),.int .i64 0,stv [],.slice ao10((one left).snoc x8).len cap10,.int .i64(x.a:Nat)] 25(0,0))/\Sl wx(Nb(w.heap.size+1) bl)((one left).snoc x8) ao10/\QS wx rb all o q st8/\au rb w wx/\au rb w1 wx/\wx.heap[w.heap.size]?=some(.cells #[.int .i64 0,.int .i64 0,.string⟨#[]⟩,.slice none 0 0,.int .i64 0] 25(0,0)))
   case first =>
    have HH:Hid(∀ w10 ao10 cap10,Sl w10(Nb(w.heap.size+1) bl)((one left).snoc x8) ao10->Below w9.drew.heap.size w9.drew w10->∃ao11 cap11,(((((w10.setCell⟨bl,0,none⟩(.int .i64(z2:Nat))).setCell⟨bl,1,none⟩(.int .i64 0)).setCell⟨bl,2,none⟩(stv [])).setCell⟨bl,3,none⟩(.slice ao10((one left).snoc x8).len cap10)).setCell⟨bl,4,none⟩(.int .i64(x.a:Nat))).heap[bl]?=some(.cells #[.int .i64(z2:Nat),.int .i64 0,stv [],.slice ao11((one left).snoc x8).len cap11,.int .i64(x.a:Nat)] 25(0,0))/\Sl(((((w10.setCell⟨bl,0,none⟩(.int .i64(z2:Nat))).setCell⟨bl,1,none⟩(.int .i64 0)).setCell⟨bl,2,none⟩(stv [])).setCell⟨bl,3,none⟩(.slice ao10((one left).snoc x8).len cap10)).setCell⟨bl,4,none⟩(.int .i64(x.a:Nat)))(Nb(w.heap.size+1) bl)((one left).snoc x8) ao11/\QS(((((w10.setCell⟨bl,0,none⟩(.int .i64(z2:Nat))).setCell⟨bl,1,none⟩(.int .i64 0)).setCell⟨bl,2,none⟩(stv [])).setCell⟨bl,3,none⟩(.slice ao10((one left).snoc x8).len cap10)).setCell⟨bl,4,none⟩(.int .i64(x.a:Nat))) rb all o q st8/\au rb w(((((w10.setCell⟨bl,0,none⟩(.int .i64(z2:Nat))).setCell⟨bl,1,none⟩(.int .i64 0)).setCell⟨bl,2,none⟩(stv [])).setCell⟨bl,3,none⟩(.slice ao10((one left).snoc x8).len cap10)).setCell⟨bl,4,none⟩(.int .i64(x.a:Nat)))/\au rb w1(((((w10.setCell⟨bl,0,none⟩(.int .i64(z2:Nat))).setCell⟨bl,1,none⟩(.int .i64 0)).setCell⟨bl,2,none⟩(stv [])).setCell⟨bl,3,none⟩(.slice ao10((one left).snoc x8).len cap10)).setCell⟨bl,4,none⟩(.int .i64(x.a:Nat)))/\(((((w10.setCell⟨bl,0,none⟩(.int .i64(z2:Nat))).setCell⟨bl,1,none⟩(.int .i64 0)).setCell⟨bl,2,none⟩(stv [])).setCell⟨bl,3,none⟩(.slice ao10((one left).snoc x8).len cap10)).setCell⟨bl,4,none⟩(.int .i64(x.a:Nat))).heap[w.heap.size]?=some(.cells #[.int .i64 0,.int .i64 0,.string⟨#[]⟩,.slice none 0 0,.int .i64 0] 25(0,0))):=fun w10 ao10 cap10 S10 b10=>by
     have k10:au rb w9 w10:=(au.refl rb w9).drew.trans(au.ofBelow b10);have hq:=(h9.below(Below.refl _ _).drew).below b10;have hl:=(k10.blk L9(by omega))
     have hzz:=(k10.blk Z9(by omega))
     exact⟨ao10,cap10,bG(.int .i64(z2:Nat))(.int .i64 0)(stv [])(.slice ao10((one left).snoc x8).len cap10)(.int .i64(x.a:Nat)) hl,S10.set5B(b:=bl)(.inl rfl)(.int .i64(z2:Nat))(.int .i64 0)(stv [])(.slice ao10((one left).snoc x8).len cap10)(.int .i64(x.a:Nat)),hq.set5(b:=bl)(by omega)(.int .i64(z2:Nat))(.int .i64 0)(stv [])(.slice ao10((one left).snoc x8).len cap10)(.int .i64(x.a:Nat)),(K9.trans k10).set5(b:=bl)(by omega)(.int .i64(z2:Nat))(.int .i64 0)(stv [])(.slice ao10((one left).snoc x8).len cap10)(.int .i64(x.a:Nat)),(KS9.trans k10).set5(b:=bl) hw1(.int .i64(z2:Nat))(.int .i64 0)(stv [])(.slice ao10((one left).snoc x8).len cap10)(.int .i64(x.a:Nat)),(blk5(by omega)(.int .i64(z2:Nat))(.int .i64 0)(stv [])(.slice ao10((one left).snoc x8).len cap10)(.int .i64(x.a:Nat))).trans hzz⟩
    clear h9 K9 KS9 Z9 L9 Y9 S9a S9b;go_region_with((go_at_call 68;refine(HC10.out w9.drew rfl).mono ?_;rintro e w10⟨ao10,cap10,rfl,S10,b10⟩;have L10:=(b10.block bl hbd).trans L9d;have FX:=HH.out _ _ cap10 S10 b10;obtain⟨q0,q1,q2,q3,q4,qf⟩:=am L10))
    all_goals
     go_wp2;go_meet;exact FX
   case rest =>
   obtain⟨ao10,cap10,L11,S11,h11,K11,KS11,Z11⟩:=hcut;clear h9 K9 KS9 Z9 L9 Y9 S9a S9b HC10 ck v0 v1 v2 v3 v4 vf y0 y1 y2 y3 y4 yf hbd L9d hbl9 hz8;have hg1:g1<wc.heap.size:=by have:=SG.out.1;have:=KS11.size;omega
   have c12:=fN TI(sgW row)(qy HR.out).1 h11 HN.out hg1(fun j s hj=>(KS11.cell SG.out.1(by have:=SG.out.2.2.1;omega) j).trans(SG.out.2.2.2.2.1 j s hj))(Nat.le_refl n)(by unfold maxLen;omega);go_wp2_with fail;refine c12.mono ?_;rintro e w13⟨rfl,b13⟩;have k13:=au.ofBelow(rb:=rb) b13;have h13:=h11.below b13;have Z13:=k13.blk Z11(by omega);have L13:=k13.blk L11(by omega);have S13:=S11.keepB k13(by omega);have K13:=K11.trans k13;have KS13:=KS11.trans k13;clear c12 b13 k13 h11 Z11 L11 S11 K11 KS11 hg1;by_cases h4:row=4
   ·have C9:=(C8.congr(H:=fun t2=>.ok⟨(z2:Nat),0,[],x.a,(one left).snoc x8⟩ t2)(fun t _=>if_pos(H4.out.2 h4))).fin;have HF:Hid(Qd F(.inr ts)⟨(z2:Nat),0,[],x.a,(one left).snoc x8⟩ st8):=C9;have hr4:((row:Int)==4)=true:=by rw[h4];rfl
    have KE:=K13.set5(b:=w.heap.size)(by omega)(.int .i64(z2:Nat))(.int .i64 0)(stv [])(.slice ao10((one left).snoc x8).len cap10)(.int .i64(x.a:Nat));have RE:=h13.set5(b:=w.heap.size)(by omega)(.int .i64(z2:Nat))(.int .i64 0)(stv [])(.slice ao10((one left).snoc x8).len cap10)(.int .i64(x.a:Nat));have ZE:=bG(.int .i64(z2:Nat))(.int .i64 0)(stv [])(.slice ao10((one left).snoc x8).len cap10)(.int .i64(x.a:Nat)) Z13;have SE:Sl _(Nw w.heap.size) _ _:=(S13.set5B(b:=w.heap.size)(.inr(by omega))(.int .i64(z2:Nat))(.int .i64 0)(stv [])(.slice ao10((one left).snoc x8).len cap10)(.int .i64(x.a:Nat))).lowB(by omega);obtain⟨z0,z1,z2',z3',z4',zf⟩:=am Z13;obtain⟨v0,v1,v2,v3,v4,vf⟩:=am L13;obtain⟨u0,u1,u2,u3,u4,-⟩:=am ZE;clear C8 C9 h4 h13 K13 KS13 Z13 L13 S13 ZE;go_wp2;exact bodyPost_ret(v:=exV⟨(z2:Nat),0,[],x.a,(one left).snoc x8⟩ ao10 cap10)(by simp[results,Tryz.results34,go_sem,u0,u1,u2,u3,u4,exV]) rfl⟨_,_,_,_,rfl,SE,RE,KE,HF.out⟩
   ·have C9:=C8.congr(H:=fun t2=>cU rec g' row o q⟨(z2:Nat),0,[],x.a,(one left).snoc x8⟩ t2)(fun t _=>if_neg(fun e=>h4(H4.out.1 e)));have hr4:((row:Int)==4)=false:=by simp;omega
    clear C8 h4;go_wp2
    go_roundg g'
    case rel=>(try((repeat apply Exists.intro);refine⟨?_,rfl⟩));exact⟨st8,⟨(z2:Nat),0,[],x.a,(one left).snoc x8⟩,ao10,cap10,rfl,C9,L13,S13,h13,K13,KS13,Z13⟩
    all_goals omega
theorem Rs.bind_assoc {α β γ:Type}(r:Rs α)(f:α->List Tk->Rs β)(g:β->List Tk->Rs γ):(r.bind f).bind g=r.bind fun x t=>(f x t).bind g:=by
 cases r using Rs.on with
 | out=>rfl
 | bad e a=>rfl
 | ok x t=>rfl
def iv (rec:Rdr)(many n a o q:Nat)(ts:List Tk):Rs Ex:=(eH rec many o q ts.tail).bind fun ks t1=>.ok ⟨20,(n:Int)+1,[],(a:Nat),ks⟩ t1
theorem Rq.same {w w2:World}{rb i:Nat}{o q:Int}{er pl:Nat}{all:List Tk}(h:Rq w rb i o q er pl all)(hb:∀ k,k<=rb->w2.heap[k]?=w.heap[k]?):Rq w2 rb i o q er pl all:=by
 obtain⟨g,cap,h1,h2,h4,h5⟩:=h;exact⟨g,cap,(hb rb(Nat.le_refl _)).trans h1,h2,fun j u hu=>(World.cell?_of_block(a:=⟨g,j,none⟩)(hb g(by omega))).trans(h4 j u hu),h5⟩
theorem QS.same {w w2:World}{rb o q:Nat}{all:List Tk}{st:Sq}(h:QS w rb all o q st)(hb:∀ k,k<=rb->w2.heap[k]?=w.heap[k]?):QS w2 rb all o q st:=by
 match st,h with
 | .inl(er,a),⟨i,o',q',h1,h2⟩=>exact⟨i,o',q',h1.same hb,h2⟩
 | .inr ts,⟨i,pl,h1,h2⟩=>exact⟨i,pl,h1.same hb,h2⟩
theorem QS.step1 {w w2:World}{o2:Nat->Nat}{rb g o q:Nat}{all:List Tk}{st:Sq}(h:QS w rb all o q st)(s:aa (fun x=>x=1) w (j7 g) w2 o2)(hg:rb<g):QS w2 rb all o q st:=h.same fun k hk=>s.block k (by have:=h.lt;omega) (by unfold j7;rw[if_neg (by omega)];decide)
theorem Rs.ok_bind {α β:Type}(x:α)(t:List Tk)(f:α->List Tk->Rs β):(Rs.ok x t).bind f=f x t:=rfl
theorem zV {rec:Rdr}(R:jt rec){w:World}{rb o q n:Nat}{all:List Tk}{x:Tk}{r:List Tk}(TI:∀ x,x ∈ all->ey x)(hxt:x.t≠[])(hn9:3<=n/\n<10)(h:QS w rb all o q (.inr (x::r)))(hn:Nou (iv rec 1 n x.a o q) (.inr (x::r))) :
  Calls Tryz.prog 203 #[.pointer(some⟨rb,0,none⟩),.int .i64(n:Nat),.int .i64(x.a:Nat)] w(dm rb all o q w(.inr(x::r))(iv rec 1 n x.a o q)):=by
 have hrb:=h.lt;have K0:au rb w(w.alloc exZ):=(au.refl rb w).alloc _;have Z0:(w.alloc exZ).heap[w.heap.size]?=some exZ:=heap_alloc_new w _;have h0:=h.alloc exZ;have C0:=Ctx.start hn;have C1:=C0.eat(H:=(fun ts=>(aG [40] o ts).bind fun _ t1=>(rec 1(o+1) q t1).bind fun e t2=>(aW [41] t2).bind fun _ t4=>.ok⟨20,(n:Int)+1,[],(x.a:Nat),one e⟩ t4))(by simp only[iv,List.tail_cons,eH,fu,Rs.bind_assoc,Rs.ok_bind,Nat.sub_self,Nat.reduceSub]);have hs1:w.heap.size<(w.alloc exZ).heap.size:=by simp
 have hnI:¬(n:Int)<3:=by omega
 obtain⟨ii,hii,hzi0,hzi1,hzi2⟩:=aH lr;obtain⟨i,g,cap,L,hg,hi,hcL,hcap,hL,hm,-,d1,-,-,-,-,hf⟩:=h0.ok;have h1:=h0.over(.inl hxt) d1;have k1:=au.at(rb:=rb)(w.alloc exZ) 1(.int .i64((i:Int)+1));clear C0 hn h0 hm;go_enter Tryz.func203,Tryz.ntmps203;go_upto_region 1 with fail;generalize w.alloc exZ=v0 at *;go_upto_region 2 with fail;generalize v0.setCell⟨rb,1,none⟩(.int .i64((i:Int)+1))=w1 at *;clear d1 hf;have Z1:=k1.blk Z0(by have:=K0.size;omega);have K1:=K0.trans k1;clear K0 Z0;have c2:=io TI [40]⟨by decide,by decide⟩ h1;go_wp2_with fail;refine c2.mono ?_;rintro e w2⟨x2,st2,rfl,h2,k2,Q2⟩;have C2:=C1.step Q2;clear c2 Q2 C1;have Z2:=k2.blk Z1(by have:=K1.size;omega);have K2:=K1.trans k2;clear K1 Z1;have c3:=R _ rb all 1(o+1)(q) st2 TI(by omega)(by omega) h2 C2.nou;go_wp2_with fail;refine c3.mono ?_;rintro e w3⟨x3,ao3,cap3,st3,rfl,S3,h3,k3,Q3⟩;have C3:=C2.step Q3;clear c3 Q3 C2;have S3a:=S3.low(show(w.heap.size+1)<=_ from(by have:=lt_of_block Z2;omega));clear S3;have Z3:=k3.blk Z2(by have:=K2.size;omega);have K3:=K2.trans k3;clear K2 Z2;have A3_a:=Acc.one cap3 S3a(by have:=lt_of_block Z3;omega);have h3a:=h3.alloc(.cells #[.int .i64 x3.k,.int .i64 x3.n,stv x3.nm,.slice ao3 x3.kids.len cap3,.int .i64 x3.a] 25);have K3a:=K3.alloc(.cells #[.int .i64 x3.k,.int .i64 x3.n,stv x3.nm,.slice ao3 x3.kids.len cap3,.int .i64 x3.a] 25);have Z3a:=(Below.heap_alloc w3(.cells #[.int .i64 x3.k,.int .i64 x3.n,stv x3.nm,.slice ao3 x3.kids.len cap3,.int .i64 x3.a] 25) _(lt_of_block Z3)).trans Z3;clear h3 K3 Z3 S3a;rw[aq];have c4:=ic TI [41]⟨by decide,by decide⟩ h3a;go_wp2_with fail;refine c4.mono ?_;rintro e w4⟨x4,st4,rfl,h4,k4,Q4⟩;have C4:=C3.step Q4;clear c4 Q4 C3;have Z4:=k4.blk Z3a(by have:=K3a.size;omega);have K4:=K3a.trans k4;have A3_4:=A3_a.keep k4(by omega);clear K3a Z3a A3_a;obtain⟨aoF,capF,hvF,SF⟩:=A3_4.sl;simp only[Value.slice.injEq] at hvF;obtain⟨rfl,-,rfl⟩:=hvF;have KE:=K4.set5(b:=w.heap.size)(by omega)(.int .i64 20)(.int .i64((n:Int)+1))(stv [])(.slice(some⟨w3.heap.size,0,none⟩) 1 1)(.int .i64 x.a);have RE:=h4.set5(b:=w.heap.size)(by omega)(.int .i64 20)(.int .i64((n:Int)+1))(stv [])(.slice(some⟨w3.heap.size,0,none⟩) 1 1)(.int .i64 x.a);have ZE:=bG(.int .i64 20)(.int .i64((n:Int)+1))(stv [])(.slice(some⟨w3.heap.size,0,none⟩) 1 1)(.int .i64 x.a) Z4;have SE:Sl _(Nw w.heap.size) _ _:=(SF.set5(b:=w.heap.size)(by omega)(.int .i64 20)(.int .i64((n:Int)+1))(stv [])(.slice(some⟨w3.heap.size,0,none⟩) 1 1)(.int .i64 x.a)).low(by omega);obtain⟨z0,z1,z2,z3,z4,zf⟩:=am Z4;obtain⟨u0,u1,u2,u3,u4,-⟩:=am ZE;have FIN:=C4.fin;clear ZE SF K4 Z4 h4 A3_4;go_wp2;exact bodyPost_ret(v:=exV⟨20,((n:Int)+1),[],x.a,(one x3)⟩(some⟨w3.heap.size,0,none⟩) 1)(by simp[results,Tryz.results203,go_sem,u0,u1,u2,u3,u4,exV];try rfl) rfl⟨_,_,_,_,rfl,SE,RE,KE,FIN⟩
theorem AP {rec:Rdr}(R:jt rec){w:World}{rb o q n:Nat}{all:List Tk}{x:Tk}{r:List Tk}(TI:∀ x,x ∈ all->ey x)(hxt:x.t≠[])(hn9:n<3)(h:QS w rb all o q (.inr (x::r)))(hn:Nou (iv rec 2 n x.a o q) (.inr (x::r))) :
  Calls Tryz.prog 203 #[.pointer(some⟨rb,0,none⟩),.int .i64(n:Nat),.int .i64(x.a:Nat)] w(dm rb all o q w(.inr(x::r))(iv rec 2 n x.a o q)):=by
 have hrb:=h.lt;have K0:au rb w(w.alloc exZ):=(au.refl rb w).alloc _;have Z0:(w.alloc exZ).heap[w.heap.size]?=some exZ:=heap_alloc_new w _;have h0:=h.alloc exZ;have C0:=Ctx.start hn;have C1:=C0.eat(H:=(fun ts=>(aG [40] o ts).bind fun _ t1=>(rec 1(o+1) q t1).bind fun e t2=>(aW [44] t2).bind fun _ t2b=>(rec 1(o+1) q t2b).bind fun e2 t2c=>(aW [41] t2c).bind fun _ t4=>.ok⟨20,(n:Int)+1,[],(x.a:Nat),(one e).snoc e2⟩ t4))(by simp only[iv,List.tail_cons,eH,fu,Rs.bind_assoc,Rs.ok_bind,Nat.sub_self,Nat.reduceSub]);have hs1:w.heap.size<(w.alloc exZ).heap.size:=by simp
 have hnI:(n:Int)<3:=by omega
 obtain⟨ii,hii,hzi0,hzi1,hzi2⟩:=aH lr;obtain⟨i,g,cap,L,hg,hi,hcL,hcap,hL,hm,-,d1,-,-,-,-,hf⟩:=h0.ok;have h1:=h0.over(.inl hxt) d1;have k1:=au.at(rb:=rb)(w.alloc exZ) 1(.int .i64((i:Int)+1));clear C0 hn h0 hm;go_enter Tryz.func203,Tryz.ntmps203;go_upto_region 1 with fail;generalize w.alloc exZ=v0 at *;go_upto_region 2 with fail;generalize v0.setCell⟨rb,1,none⟩(.int .i64((i:Int)+1))=w1 at *;clear d1 hf;have Z1:=k1.blk Z0(by have:=K0.size;omega);have K1:=K0.trans k1;clear K0 Z0;have c2:=io TI [40]⟨by decide,by decide⟩ h1;go_wp2_with fail;refine c2.mono ?_;rintro e w2⟨x2,st2,rfl,h2,k2,Q2⟩;have C2:=C1.step Q2;clear c2 Q2 C1;have Z2:=k2.blk Z1(by have:=K1.size;omega);have K2:=K1.trans k2;clear K1 Z1;have c3:=R _ rb all 1(o+1)(q) st2 TI(by omega)(by omega) h2 C2.nou;go_wp2_with fail;refine c3.mono ?_;rintro e w3⟨x3,ao3,cap3,st3,rfl,S3,h3,k3,Q3⟩;have C3:=C2.step Q3;clear c3 Q3 C2;have S3a:=S3.low(show(w.heap.size+1)<=_ from(by have:=lt_of_block Z2;omega));clear S3;have Z3:=k3.blk Z2(by have:=K2.size;omega);have K3:=K2.trans k3;clear K2 Z2;have A3_a:=Acc.one cap3 S3a(by have:=lt_of_block Z3;omega);have h3a:=h3.alloc(.cells #[.int .i64 x3.k,.int .i64 x3.n,stv x3.nm,.slice ao3 x3.kids.len cap3,.int .i64 x3.a] 25);have K3a:=K3.alloc(.cells #[.int .i64 x3.k,.int .i64 x3.n,stv x3.nm,.slice ao3 x3.kids.len cap3,.int .i64 x3.a] 25);have Z3a:=(Below.heap_alloc w3(.cells #[.int .i64 x3.k,.int .i64 x3.n,stv x3.nm,.slice ao3 x3.kids.len cap3,.int .i64 x3.a] 25) _(lt_of_block Z3)).trans Z3;clear h3 K3 Z3 S3a;rw[aq];have c4:=lh TI [44]⟨by decide,by decide⟩ h3a;go_wp2_with fail;refine c4.mono ?_;rintro e w4⟨x4,st4,rfl,h4,k4,Q4⟩;have C4:=C3.step Q4;clear c4 Q4 C3;have Z4:=k4.blk Z3a(by have:=K3a.size;omega);have K4:=K3a.trans k4;have A3_4:=A3_a.keep k4(by omega);clear K3a Z3a A3_a;have c5:=R _ rb all 1(o+1)(q) st4 TI(by omega)(by omega) h4 C4.nou;go_wp2_with fail;refine c5.mono ?_;have hw5:w3.heap.size<w4.heap.size:=by obtain⟨g9,c9,x9,hv9,B9⟩:=A3_4;simp only[Value.slice.injEq,Option.some.injEq,Addr.mk.injEq,true_and,and_true] at hv9;obtain⟨e9,-,-⟩:=hv9;subst e9;exact B9.row.lt rfl
 rintro e w5⟨x5,ao5,cap5,st5,rfl,SN0,h5,k5,Q5⟩;have C5:=C4.step Q5;clear c5 Q5 C4;have SN:=SN0;have S5a:=SN0.low(show(w.heap.size+1)<=_ from(by have:=lt_of_block Z4;omega));clear SN0;have Z5:=k5.blk Z4(by have:=K4.size;omega);have K5:=K4.trans k5;have A3_5:=A3_4.keep k5(by omega);clear K4 Z4 A3_4;obtain⟨gA,capA,xs,hvA,AG⟩:=A3_5;simp only[Value.slice.injEq,Option.some.injEq,Addr.mk.injEq,true_and,and_true] at hvA;obtain⟨hgA,-,rfl⟩:=hvA;subst hgA;have AG8:xm(World.alloc w5(.cells #[.int .i64 x5.k,.int .i64 x5.n,stv x5.nm,.slice ao5 x5.kids.len cap5,.int .i64 x5.a] 25))(w.heap.size+1)(one x3) w3.heap.size 1 xs:=⟨AG.1,(AG.row.step(dL(fun _=>False) w5(j7 w3.heap.size) _) id).1,AG.2.2.mono(fun i hp hl=>Below.heap_alloc w5 _ i hl)(by simp)(fun _ h _=>h)⟩
 have S8:=SN.allocN(.cells #[.int .i64 x5.k,.int .i64 x5.n,stv x5.nm,.slice ao5 x5.kids.len cap5,.int .i64 x5.a] 25);have h8:=h5.alloc(.cells #[.int .i64 x5.k,.int .i64 x5.n,stv x5.nm,.slice ao5 x5.kids.len cap5,.int .i64 x5.a] 25);have K8:=K5.alloc(.cells #[.int .i64 x5.k,.int .i64 x5.n,stv x5.nm,.slice ao5 x5.kids.len cap5,.int .i64 x5.a] 25);have Z8:=(Below.heap_alloc w5(.cells #[.int .i64 x5.k,.int .i64 x5.n,stv x5.nm,.slice ao5 x5.kids.len cap5,.int .i64 x5.a] 25) _(lt_of_block Z5)).trans Z5;have hone:∀ u ∈ [Value.int .i64 x5.k,.int .i64 x5.n,stv x5.nm,.slice ao5 x5.kids.len cap5,.int .i64 x5.a],u.oneCell'=true:=by intro u hu;simp at hu;rcases hu with rfl|rfl|rfl|rfl|rfl<;>rfl
 have b1:1+1<=maxLen:=by unfold maxLen;omega
 have b2:(1+1)*64<=140737488355328:=by omega
 have l1:(one x3).len=1:=rfl;have AR:=AG8.row;rw[l1] at AR;clear l1;clear AG h5 K5 Z5 S5a SN;rw[aq];go_wp2_with(first|(at_builtin;refine aB rfl(.tmp 24)(.tmp 27) 23 rfl 25 ii _ 5 64 Tryz.underlying23 hii hzi0 hzi1 hzi2 rfl(by decide)(j7 w3.heap.size) 1 _ 1 xs rfl AR⟨w5.heap.size,0,none⟩ 1 1 [.int .i64 x5.k,.int .i64 x5.n,stv x5.nm,.slice ao5 x5.kids.len cap5,.int .i64 x5.a] rfl rfl(dj w5 _ _) hone(by decide) b1 b2 ?_)|go_in);intro g8 c8 w8 o8 r8 s8;have A8:=Acc.push AG8 S8 hw5(by have:=lt_of_block Z8;omega) s8 r8;have hgr:w.heap.size+1<=w3.heap.size:=AG8.1;have h9:=h8.step1 s8(by omega);have K9:=K8.step1 s8(by omega);have Z9:=(s8.block w.heap.size(lt_of_block Z8)(by unfold j7;rw[if_neg(by omega)];decide)).trans Z8;clear AG8 AR S8 h8 K8 Z8 r8 s8 hone b1 b2 hii hzi0 hzi1 hzi2 ii hw5 hgr xs;have c11:=ic TI [41]⟨by decide,by decide⟩ h9;go_wp2_with fail;refine c11.mono ?_;rintro e w11⟨x11,st11,rfl,h11,k11,Q11⟩;have C11:=C5.step Q11;clear c11 Q11 C5;have Z11:=k11.blk Z9(by have:=K9.size;omega);have K11:=K9.trans k11;have A8_11:=A8.keep k11(by omega);clear K9 Z9 A8;obtain⟨aoF,capF,hvF,SF⟩:=A8_11.sl;simp only[Value.slice.injEq] at hvF;obtain⟨rfl,-,rfl⟩:=hvF;have KE:=K11.set5(b:=w.heap.size)(by omega)(.int .i64 20)(.int .i64((n:Int)+1))(stv [])(.slice(some⟨g8,0,none⟩) 2 c8)(.int .i64 x.a);have RE:=h11.set5(b:=w.heap.size)(by omega)(.int .i64 20)(.int .i64((n:Int)+1))(stv [])(.slice(some⟨g8,0,none⟩) 2 c8)(.int .i64 x.a);have ZE:=bG(.int .i64 20)(.int .i64((n:Int)+1))(stv [])(.slice(some⟨g8,0,none⟩) 2 c8)(.int .i64 x.a) Z11;have SE:Sl _(Nw w.heap.size) _ _:=(SF.set5(b:=w.heap.size)(by omega)(.int .i64 20)(.int .i64((n:Int)+1))(stv [])(.slice(some⟨g8,0,none⟩) 2 c8)(.int .i64 x.a)).low(by omega);obtain⟨z0,z1,z2,z3,z4,zf⟩:=am Z11;obtain⟨u0,u1,u2,u3,u4,-⟩:=am ZE;have FIN:=C11.fin;clear ZE SF K11 Z11 h11 A8_11;go_wp2;exact bodyPost_ret(v:=exV⟨20,((n:Int)+1),[],x.a,((one x3).snoc x5)⟩(some⟨g8,0,none⟩) c8)(by simp[results,Tryz.results203,go_sem,u0,u1,u2,u3,u4,exV];try rfl) rfl⟨_,_,_,_,rfl,SE,RE,KE,FIN⟩
end Go.Proofs.YtbjdkekhnajafaaGreatDoor
