import Derived.Test.YtbjdkekhnajafaaGreatDoorDocC
set_option maxRecDepth 100000
set_option maxHeartbeats 8000000
namespace Go.Proofs.YtbjdkekhnajafaaGreatDoor
open Go.ChangeShapes Go.WideShapes Go.ChangeAt Go.RowKit
set_option linter.unusedVariables false
set_option linter.unusedSimpArgs false
theorem cu.kid {e:Ex}{d r:Fs}{x:Ex}(h:cu e)(hk:e.kids=d.app (Fs.ex x r)):cu x:=by
 have:=Fs.app_short (x:=d) (y:=Fs.ex x r) (by rw[<-hk];exact h.sh)
 exact⟨this.1,this.2.1,this.2.2.1⟩
theorem WD.okc {w:World}{wb kb:Nat}{bv:Value}{nc:Nat}{st:Dg}(h:WD w wb kb bv nc st):∃a1 a2,w.heap[wb]?=some (.cells #[bv,a1,a2,.bool st.isSome] 104 (0,0)):=by
 cases st with
 | none=>obtain⟨-,p,kv,h⟩:=h;exact⟨_,_,h⟩
 | some s=>exact⟨_,_,h.1⟩
theorem fT {N:Nat}(IH:i7 N)(e:Ex)(ao:Option Addr)(cap wb kb:Nat)(bv:Value)(cells:List Int)(ar wi:Nat)(m g:Int)(st:Dg)(w:World)(hN:e.kids.size<=N)(hf:cu e)(hwi:wi<=4)(har:ar<=wi)(hne:wb≠kb)(hm:m≠4)(h:WD w wb kb bv cells.length st)(hn:Inw w (Nf2 wb kb) bv cells)(S:SlN w (Nf2 wb kb) e.kids ao) :
  Calls Tryz.prog 105 #[.pointer (some ⟨wb,0,none⟩),exN e ao cap,.int .i64 (ar:Nat),.int .i64 (wi:Nat),.int .i64 m,.int .i64 g] w fun z w'=>z=.returned (.int .i64 g)/\WD w' wb kb bv cells.length (cD cells e.kids st m ar wi)/\Kp wb kb w w':=by
 obtain⟨Z,hZ⟩:∃Z,Z=cD cells e.kids st m ar wi:=⟨_,rfl⟩
 rw[<-hZ];have HZ:Hid (Z=cD cells e.kids st m ar wi):=hZ;clear hZ;have hlen:=hf.len;have B0:Below w.heap.size w (w.alloc (.cells #[.int .i64 e.k,.int .i64 e.n,stv e.nm,.slice ao e.kids.len cap] 34)):=(Below.refl _ w).alloc (Nat.le_refl _) _;have E0:(w.alloc (.cells #[.int .i64 e.k,.int .i64 e.n,stv e.nm,.slice ao e.kids.len cap] 34)).heap[w.heap.size]?=some (.cells #[.int .i64 e.k,.int .i64 e.n,stv e.nm,.slice ao e.kids.len cap] 34):=heap_alloc_new w _;have W0:=h.below B0;have S0:=S.belowP B0;have N0:=hn.below B0;have hwb:=h.lt;have hkb:=h.ltk;clear h S hn;rw[ah];go_enter Tryz.func105,Tryz.ntmps105;go_upto_region 1 with fail;generalize w.alloc (.cells #[.int .i64 e.k,.int .i64 e.n,stv e.nm,.slice ao e.kids.len cap] 34)=w0 at *;have KK:Kp wb kb w w0:=Kp.ofBelow B0;obtain⟨bx,hbx⟩:∃bx,bx=w.heap.size:=⟨_,rfl⟩
 rw[<-hbx] at E0 ⊢;have hb1:bx≠wb:=by omega
 have hb2:bx≠kb:=by omega
 clear hbx hwb hkb;go_wp2;go_loopw [13] (fun v wr=>∃(d r:Fs) (st':Dg),Hid (e.kids=d.app r)/\v=.int .i64 (d.len:Nat)/\Hid (cD cells r st' m ar wi=Z)/\WD wr wb kb bv cells.length st'/\wr.heap[bx]?=some (.cells #[.int .i64 e.k,.int .i64 e.n,stv e.nm,.slice ao e.kids.len cap] 34)/\Inw wr (Nf2 wb kb) bv cells/\SlN wr (Nf2 wb kb) e.kids ao/\Kp wb kb w wr) (fun v _=>e.kids.len-(intOf v).toNat)
 case atStart=>exact⟨.nil,e.kids,st,rfl,by show _=Value.int .i64 ((0:Nat):Int);rfl,HZ.out.symm,W0,E0,N0,S0,KK⟩
 case round =>
  clear E0 B0 HZ W0 N0 S0 KK;obtain⟨d,r,st',hk,rfl,HA,W1,E1,N1,S1,K1⟩:=hrel;have hlk:e.kids.len=d.len+r.len:=by rw[hk.out,Fs.len_app]
  obtain⟨p0,p1,p2,p3,pf⟩:=aI E1;cases r using Fs.on with
  | nil =>
   have hlt:¬(d.len:Int)<(e.kids.len:Int):=by simp only[Fs.len] at hlk;omega
   have FIN:Hid (WD wr wb kb bv cells.length Z/\Kp wb kb w wr):=by rw[<-HA.out];exact⟨W1,K1⟩
   clear HA hlk W1 K1 N1 S1 E1;go_wp2;go_ret;exact⟨rfl,FIN.out.1,FIN.out.2⟩
  | cons kk kn km ka kks kr =>
   have hlt:(d.len:Int)<(e.kids.len:Int):=by simp only[Fs.len] at hlk;omega
   have hl3:d.len<e.kids.len:=by omega
   have hsz:e.kids.size=d.size+(kks.size+kr.size+1):=by rw[hk.out,Fs.size_app];rfl
   have hfk:cu ⟨kk,kn,km,ka,kks⟩:=hf.kid (d:=d) (r:=kr) hk.out;obtain⟨b,off,ak,ck,hao,lb1,-,x0,x1,x2,x3,SK⟩:=SlN.kidQ (by rw[<-hk.out];exact S1);subst hao;have c1:=iL IH ⟨kk,kn,km,ka,kks⟩ ak ck wb kb bv cells ar wi m st' wr (fun _=>by show kks.size<N;omega) hfk hwi har hne (fun _=>hm) W1 N1 SK;rw[ah] at c1;simp only at c1;have HA2:Hid (cD cells kr (bG cells st' m ⟨kk,kn,km,ka,kks⟩ ar wi) m ar wi=Z):=HA.out;have hk2:Hid (e.kids=(d.snoc ⟨kk,kn,km,ka,kks⟩).app kr):=by show e.kids=_;rw[hk.out];unfold Fs.snoc;rw[Fs.app_assoc];rfl
   have hl2:(d.len:Int)+1=((d.snoc ⟨kk,kn,km,ka,kks⟩).len:Nat):=by rw[Fs.len_snoc];rfl
   generalize bG cells st' m ⟨kk,kn,km,ka,kks⟩ ar wi=st2 at *;clear HA hlk hsz hfk SK hk W1;go_wp2_with fail;refine c1.mono ?_;rintro x w2 ⟨rfl,W2,k2⟩;have E2:=(k2.block bx (lt_of_block E1) hb1 hb2).trans E1;have N2:=N1.kp k2;have S2:=S1.kp k2;have K2:=K1.trans k2;clear c1 x0 x1 x2 x3 p0 p1 p2 p3 pf k2 E1 K1 N1 S1;go_wp2;go_roundw
   case rel=>exact⟨_,kr,st2,hk2,by rw[<-hl2],HA2,W2,E2,N2,S2,K2⟩
   case measure=>simp[intOf];omega
theorem wt (ks:List Int)(i:Nat):wkP ks i≠4:=by
 unfold wkP;split
 ·split<;>omega
 ·omega
theorem ug {k n:Int}{kd:List Int}(h:(aZ k n kd).2=4):22<=k/\k<=25:=by
 apply Classical.byContradiction;intro hc;have h0:=wt kd 0;have h1:=wt kd 1;have hk:(1<=k/\k<=3)\/(5<=k/\k<=26):=mo (by rw[h];decide);have hc2:k=1\/k=2\/k=3\/k=5\/k=6\/k=7\/k=8\/k=9\/k=10\/k=11\/k=12\/k=13\/k=14\/k=15\/k=16\/k=17\/k=18\/k=19\/k=20\/k=21\/k=26:=by omega
 rcases hc2 with rfl|rfl|rfl|rfl|rfl|rfl|rfl|rfl|rfl|rfl|rfl|rfl|rfl|rfl|rfl|rfl|rfl|rfl|rfl|rfl|rfl<;>simp[aZ,h0,h1] at h
 all_goals (
  revert h
  split
  ·simp
  ·split
   ·simp
   ·first|(split<;>simp)|simp)
theorem yS {cells:List Int}{s:Rg}{m:Int}{e:Ex}{ar wi:Nat}(h:4096<s.1+1):bG cells (some s) m e ar wi=none:=by
 simp only[bG];rw[fR (fun hg=>hg (.inl h))]
theorem qj {cells:List Int}{s:Rg}{e:Ex}{ar wi:Nat}(h:e.k<22\/25<e.k):bG cells (some s) 4 e ar wi=none:=by
 simp only[bG];cases hr:rgE cells e ar wi s with
 | none=>rfl
 | some z =>
  obtain⟨s',k⟩:=z;simp only;split
  ·rename_i hk
   obtain⟨-,s1,kd,-,-,-,-,h5,-⟩:=dw hr
   have:=ug (h5.symm.trans hk)
   omega
  ·rfl
theorem yK {cells:List Int}{s:Rg}{m:Int}{e:Ex}{ar wi:Nat}(h:aD e.k e.n e.nm e.kids.len=false):bG cells (some s) m e ar wi=none:=by
 simp only[bG];rw[pc h]
theorem AM {cells:List Int}{s:Rg}{e:Ex}{ar wi:Nat}(h:aD e.k e.n e.nm e.kids.len=true)(hk:22<=e.k/\e.k<=25)(hs:s.1+1<=4096)(hw:wi<=4):bG cells (some s) 4 e ar wi=cD cells e.kids (some (s.1+1,s.2)) 3 ar wi:=by
 have hg:gdE cells e ar wi s:=ic h hs hw (fun h5=>by omega) (fun h6=>by omega);have hf:∀ kd:List Int,kd.length=e.kids.len->aZ e.k e.n kd=(List.replicate e.kids.len 3,4):=by
  intro kd hl;have hc:e.k=22\/e.k=23\/e.k=24\/e.k=25:=by omega
  rcases hc with hc|hc|hc|hc<;>rw[hc] at h ⊢<;>simp[aD] at h
  ·rw[h.2.2];rfl
  ·rw[h.2.1];rfl
  ·rw[h.2.2];rfl
  ·rw[<-hl];rfl
 simp only[bG];rw[yJ 3 4 hg (by omega) (by omega) hf (by omega)];cases cD cells e.kids (some (s.1+1,s.2)) 3 ar wi with
 | none=>rfl
 | some s'=>rfl
theorem KT.set {w:World}{wb kb nc:Nat}{t:Nat->Option Ex}(h:KT w (Nf2 wb kb) kb nc t)(p:Addr)(v:Value)(hp:p.block=wb)(hne:wb≠kb):KT (w.setCell p v) (Nf2 wb kb) kb nc t :=
 h.mono (heap_setCell_other w p kb v (by rw[hp];exact fun h=>hne h.symm)) (fun k hk _=>heap_setCell_other w p k v (by rw[hp];exact hk.1)) (by simp)
theorem Inw.set {w:World}{wb kb:Nat}{bv:Value}{xs:List Int}(h:Inw w (Nf2 wb kb) bv xs)(p:Addr)(v:Value)(hp:p.block=wb):Inw (w.setCell p v) (Nf2 wb kb) bv xs :=
 h.mono (fun k hk _=>heap_setCell_other w p k v (by rw[hp];exact hk.1)) (by simp) (fun _ h _=>h)
theorem SlN.set {w:World}{wb kb:Nat}{f:Fs}{ao:Option Addr}(h:SlN w (Nf2 wb kb) f ao)(p:Addr)(v:Value)(hp:p.block=wb):SlN (w.setCell p v) (Nf2 wb kb) f ao :=
 h.mono (fun k hk _=>heap_setCell_other w p k v (by rw[hp];exact hk.1)) (by simp) (fun _ h _=>h)
theorem DY {N:Nat}(IH:i7 N)(e:Ex)(ao:Option Addr)(cap wb kb:Nat)(bv:Value)(cells:List Int)(ar wi:Nat)(s:Rg)(w:World)(hN:e.kids.size<=N)(hf:cu e)(hwi:wi<=4)(har:ar<=wi)(hne:wb≠kb)(h:WD w wb kb bv cells.length (some s))(hn:Inw w (Nf2 wb kb) bv cells)(S:SlN w (Nf2 wb kb) e.kids ao) :
  Calls Tryz.prog 170 #[.pointer (some ⟨wb,0,none⟩),exN e ao cap,.int .i64 (ar:Nat),.int .i64 (wi:Nat)] w (fP w wb kb bv cells.length (bG cells (some s) 4 e ar wi)):=by
 obtain⟨Z,hZ⟩:∃Z,Z=bG cells (some s) 4 e ar wi:=⟨_,rfl⟩
 rw[<-hZ];have HZ:Hid (Z=bG cells (some s) 4 e ar wi):=hZ;clear hZ;have hlen:=hf.len;have B0:Below w.heap.size w (w.alloc (.cells #[.int .i64 e.k,.int .i64 e.n,stv e.nm,.slice ao e.kids.len cap] 34)):=(Below.refl _ w).alloc (Nat.le_refl _) _;have E0:(w.alloc (.cells #[.int .i64 e.k,.int .i64 e.n,stv e.nm,.slice ao e.kids.len cap] 34)).heap[w.heap.size]?=some (.cells #[.int .i64 e.k,.int .i64 e.n,stv e.nm,.slice ao e.kids.len cap] 34):=heap_alloc_new w _;have W0:=h.below B0;have S0:=S.belowP B0;have N0:=hn.below B0;have hwb:=h.lt;have hkb:=h.ltk;clear h S hn;rw[ah];go_enter Tryz.func170,Tryz.ntmps170;go_upto_region 1 with fail;generalize w.alloc (.cells #[.int .i64 e.k,.int .i64 e.n,stv e.nm,.slice ao e.kids.len cap] 34)=w0 at *;have KK:Kp wb kb w w0:=Kp.ofBelow B0;obtain⟨bx,hbx⟩:∃bx,bx=w.heap.size:=⟨_,rfl⟩
 rw[<-hbx] at E0 ⊢;have hb1:bx≠wb:=by omega
 have hb2:bx≠kb:=by omega
 have hkb0:=W0.ltk;obtain⟨W0,hs,KT0⟩:=W0;obtain⟨q0,q1,q2,q3,qf⟩:=aI W0;have F1:=(gK W0 (.int .i64 ((s.1:Int)+1))).1;have K1:=KK.set ⟨wb,1,none⟩ (.int .i64 ((s.1:Int)+1)) (.inr (.inl rfl));have E1:=(heap_setCell_other w0 ⟨wb,1,none⟩ bx (.int .i64 ((s.1:Int)+1)) hb1).trans E0;have N1:=N0.set ⟨wb,1,none⟩ (.int .i64 ((s.1:Int)+1)) rfl;have S1:=S0.set ⟨wb,1,none⟩ (.int .i64 ((s.1:Int)+1)) rfl;have KT1:=KT0.set ⟨wb,1,none⟩ (.int .i64 ((s.1:Int)+1)) rfl hne;have hk1:kb<(w0.setCell ⟨wb,1,none⟩ (.int .i64 ((s.1:Int)+1))).heap.size:=by simpa using hkb0
 clear hbx hwb hkb B0 E0 KK N0 S0 KT0 W0;go_upto_region 2 with fail;generalize w0.setCell ⟨wb,1,none⟩ (.int .i64 ((s.1:Int)+1))=w1 at *;clear q0 q1 q2 q3 qf hkb0;obtain⟨q0,q1,q2,q3,qf⟩:=aI F1;obtain⟨p0,p1,p2,p3,pf⟩:=aI E1;have c1:=y5 e ao cap w1 hf.nm;rw[ah] at c1;have BAD:∀ {w2:World},Hid (Z=none)->Below w1.heap.size w1 w2->Hid (fP w wb kb bv cells.length Z (.returned (.tuple #[])) (w2.setCell ⟨wb,3,none⟩ (.bool false))):=by
  intro w2 hz b2;refine⟨rfl,?_,(K1.trans (Kp.ofBelow b2)).set _ _ (.inr (.inl rfl))⟩;rw[hz.out];exact⟨by simpa using Nat.lt_of_lt_of_le hk1 b2.size,_,_,(gK ((b2.block _ (lt_of_block F1)).trans F1) (.bool false)).2⟩
 by_cases hs1:4096<s.1+1
 ·have HB:=BAD (by show Z=none;rw[HZ.out];exact yS hs1) (Below.refl _ w1);have hI:(4096:Int)<(s.1:Int)+1:=by omega
  clear BAD HZ;clear c1 p1 p2 p3 N1 S1 E1 KT1;go_wp2
  go_end0
  exact HB.out
 have hI:¬(4096:Int)<(s.1:Int)+1:=by omega
 by_cases hk1:e.k<22
 ·have HB:=BAD (by show Z=none;rw[HZ.out];exact qj (.inl hk1)) (Below.refl _ w1);clear BAD HZ;clear c1 p1 p2 p3 N1 S1 E1 KT1;go_wp2
  go_end0
  exact HB.out
 by_cases hk2:25<e.k
 ·have HB:=BAD (by show Z=none;rw[HZ.out];exact qj (.inr hk2)) (Below.refl _ w1);clear BAD HZ;clear c1 p1 p2 p3 N1 S1 E1 KT1;go_wp2
  go_end0
  exact HB.out
 go_wp2_with fail;refine c1.mono ?_;rintro x w2 ⟨rfl,b2⟩;have F2:=(b2.block _ (lt_of_block F1)).trans F1;have E2:=(b2.block _ (lt_of_block E1)).trans E1;have N2:=N1.below b2;have S2:=S1.belowP b2;have hkt:=KT1;obtain⟨arr,hkx,-⟩:=hkt;have KT2:=KT1.mono (b2.block _ (lt_of_block hkx)) (fun i _ hl=>b2.block i hl) b2.size;have K2:=K1.trans (Kp.ofBelow b2);cases hd:aD e.k e.n e.nm e.kids.len with
 | false =>
  have HB:=BAD (by show Z=none;rw[HZ.out];exact yK hd) b2;clear c1 BAD HZ q0 q1 q2 q3 qf p0 p1 p2 p3 pf hkx;obtain⟨q0,q1,q2,q3,qf⟩:=aI F2;obtain⟨p0,p1,p2,p3,pf⟩:=aI E2;clear F1 E1 N1 S1 KT1 K1 K2 KT2 N2 S2 F2 E2;go_wp2
  go_end0
  exact HB.out
 | true =>
  have HZ2:Hid (cD cells e.kids (some (s.1+1,s.2)) 3 ar wi=Z):=by show _=Z;rw[HZ.out];exact(AM hd (by omega) (by omega) hwi).symm
  have W2:WD w2 wb kb bv cells.length (some (s.1+1,s.2)):=⟨F2,by show s.1+1<=4096;omega,KT2⟩
  clear c1 BAD HZ q0 q1 q2 q3 qf p0 p1 p2 p3 pf hkx;clear F1 E1 N1 S1 KT1 K1 KT2 F2 b2 hd;go_wp2;go_loopw [8] (fun v wr=>∃(d r:Fs) (st':Dg),Hid (e.kids=d.app r)/\v=.int .i64 (d.len:Nat)/\Hid (cD cells r st' 3 ar wi=Z)/\WD wr wb kb bv cells.length st'/\wr.heap[bx]?=some (.cells #[.int .i64 e.k,.int .i64 e.n,stv e.nm,.slice ao e.kids.len cap] 34)/\Inw wr (Nf2 wb kb) bv cells/\SlN wr (Nf2 wb kb) e.kids ao/\Kp wb kb w wr) (fun v _=>e.kids.len-(intOf v).toNat)
  case atStart=>exact⟨.nil,e.kids,_,rfl,by show _=Value.int .i64 ((0:Nat):Int);rfl,HZ2.out,W2,E2,N2,S2,K2⟩
  case round =>
   clear HZ2 W2 E2 N2 S2 K2;obtain⟨d,r,st',hk,rfl,HA,W1,E1,N1,S1,K1⟩:=hrel;have hlk:e.kids.len=d.len+r.len:=by rw[hk.out,Fs.len_app]
   obtain⟨p0,p1,p2,p3,pf⟩:=aI E1;obtain⟨a1,a2,V1⟩:=W1.okc;obtain⟨q0,q1,q2,q3,qf⟩:=aI V1;cases r using Fs.on with
   | nil =>
    have hlt:¬(d.len:Int)<(e.kids.len:Int):=by simp only[Fs.len] at hlk;omega
    have FIN:Hid (fP w wb kb bv cells.length Z (.returned (.tuple #[])) wr):=⟨rfl,by rw[<-HA.out];exact W1,K1⟩
    clear HA hlk W1 K1 N1 S1 E1;go_wp2
    go_end0
    exact FIN.out
   | cons kk kn km ka kks kr =>
    have hlt:(d.len:Int)<(e.kids.len:Int):=by simp only[Fs.len] at hlk;omega
    have hl3:d.len<e.kids.len:=by omega
    cases st' with
    | none =>
     simp only[Option.isSome_none] at q3;have FIN:Hid (fP w wb kb bv cells.length Z (.returned (.tuple #[])) wr):=⟨rfl,by rw[<-HA.out,fD];exact W1,K1⟩
     clear HA hlk W1 K1 N1 S1 E1 V1;go_wp2
     go_end0
     exact FIN.out
    | some s' =>
     simp only[Option.isSome_some] at q3;have hsz:e.kids.size=d.size+(kks.size+kr.size+1):=by rw[hk.out,Fs.size_app];rfl
     have hfk:cu ⟨kk,kn,km,ka,kks⟩:=hf.kid (d:=d) (r:=kr) hk.out;obtain⟨b,off,ak,ck,hao,lb1,-,x0,x1,x2,x3,SK⟩:=SlN.kidQ (by rw[<-hk.out];exact S1);subst hao;have c1:=iL IH ⟨kk,kn,km,ka,kks⟩ ak ck wb kb bv cells ar wi 3 (some s') wr (fun _=>by show kks.size<N;omega) hfk hwi har hne (fun _=>by decide) W1 N1 SK;rw[ah] at c1;simp only at c1;have HA2:Hid (cD cells kr (bG cells (some s') 3 ⟨kk,kn,km,ka,kks⟩ ar wi) 3 ar wi=Z):=HA.out;have hk2:Hid (e.kids=(d.snoc ⟨kk,kn,km,ka,kks⟩).app kr):=by show e.kids=_;rw[hk.out];unfold Fs.snoc;rw[Fs.app_assoc];rfl
     have hl2:(d.len:Int)+1=((d.snoc ⟨kk,kn,km,ka,kks⟩).len:Nat):=by rw[Fs.len_snoc];rfl
     generalize bG cells (some s') 3 ⟨kk,kn,km,ka,kks⟩ ar wi=st2 at *;clear HA hlk hsz hfk SK hk W1 V1;go_wp2_with fail;refine c1.mono ?_;rintro x w2 ⟨rfl,W2,k2⟩;have E2:=(k2.block bx (lt_of_block E1) hb1 hb2).trans E1;have N2:=N1.kp k2;have S2:=S1.kp k2;have K2:=K1.trans k2;clear c1 x0 x1 x2 x3 p0 p1 p2 p3 pf q0 q1 q2 q3 qf k2 E1 K1 N1 S1;go_wp2;go_roundw
     case rel=>exact⟨_,kr,st2,hk2,by rw[<-hl2],HA2,W2,E2,N2,S2,K2⟩
     case measure=>simp[intOf];omega
theorem Kp.cell {a b:Nat}{w w':World}(h:Kp a b w w'){g:Nat}(hg:g<w.heap.size)(ha:g≠a)(hb:g≠b)(j:Nat):w'.cell? ⟨g,j,none⟩=w.cell? ⟨g,j,none⟩:=World.cell?_of_block (a:=⟨g,j,none⟩) (h.block g hg ha hb)
theorem cO {w w':World}{wb kb:Nat}{bv:Value}{nc:Nat}{st:Dg}{g:Int}{r:Option (Rg × Int)}(hc:r=anD st g)(W:WD w' wb kb bv nc st)(K:Kp wb kb w w'):aT w wb kb bv nc r (.returned (.int .i64 g)) w':=by
 subst hc;cases st with
 | none=>exact⟨⟨g,rfl,fun s k h=>by cases h⟩,W,K⟩
 | some s=>exact⟨⟨g,rfl,fun s k h=>by injection h with h;injection h⟩,W,K⟩
theorem zW {N:Nat}(IH:i7 N)(e t x:Ex)(ao:Option Addr)(cap wb kb:Nat)(bv:Value)(cells:List Int)(ar wi:Nat)(s:Rg)(w:World)(hk:e.kids=Fs.ex t (Fs.ex x .nil))(hN:e.kids.size<=N)(hf:cu e)(hwi:wi<=4)(har:ar<=wi)(hne:wb≠kb)(h:WD w wb kb bv cells.length (some s))(hn:Inw w (Nf2 wb kb) bv cells)(S:SlN w (Nf2 wb kb) e.kids ao) :
  Calls Tryz.prog 108 #[.pointer (some ⟨wb,0,none⟩),exN e ao cap,.int .i64 (ar:Nat),.int .i64 (wi:Nat)] w (aT w wb kb bv cells.length (anD (bG cells (bG cells (some s) 4 t ar (wi+1)) (cG e.n) x (ar+1) (wi+1)) (cm e.n))):=by
 have hl:e.kids.len=2:=by rw[hk];rfl
 have HK:Hid (e.kids=Fs.ex t (Fs.ex x .nil)):=hk;have hsz:e.kids.size=t.kids.size+(x.kids.size+0+1)+1:=by rw[hk];rfl
 have hft:cu t:=hf.kid (d:=.nil) hk;have hfx:cu x:=hf.kid (d:=Fs.ex t .nil) hk;have HL:Hid (e.kids.len=2):=hl;clear hk hl;have B0:Below w.heap.size w (w.alloc (.cells #[.int .i64 e.k,.int .i64 e.n,stv e.nm,.slice ao 2 cap] 34)):=(Below.refl _ w).alloc (Nat.le_refl _) _;have E0:(w.alloc (.cells #[.int .i64 e.k,.int .i64 e.n,stv e.nm,.slice ao 2 cap] 34)).heap[w.heap.size]?=some (.cells #[.int .i64 e.k,.int .i64 e.n,stv e.nm,.slice ao 2 cap] 34):=heap_alloc_new w _;have W0:=h.below B0;have S0:=S.belowP B0;have N0:=hn.below B0;have hwb:=h.lt;have hkb:=h.ltk;clear h S hn;rw[ah,HL.out];go_enter Tryz.func108,Tryz.ntmps108;go_upto_region 1 with fail;generalize w.alloc (.cells #[.int .i64 e.k,.int .i64 e.n,stv e.nm,.slice ao 2 cap] 34)=w0 at *;have KK:Kp wb kb w w0:=Kp.ofBelow B0;obtain⟨bx,hbx⟩:∃bx,bx=w.heap.size:=⟨_,rfl⟩
 rw[<-hbx] at E0 ⊢;have hb1:bx≠wb:=by omega
 have hb2:bx≠kb:=by omega
 clear hbx hwb hkb B0;obtain⟨p0,p1,p2,p3,pf⟩:=aI E0;by_cases h4:wi=4
 ·subst h4;have HR:Hid (aT w wb kb bv cells.length (anD (bG cells (bG cells (some s) 4 t ar (4+1)) (cG e.n) x (ar+1) (4+1)) (cm e.n)) (.returned (.int .i64 0)) (w0.setCell ⟨wb,3,none⟩ (.bool false))):=by
   rw[vq (by omega)];obtain⟨V0,-,arr,V1,-⟩:=W0;exact⟨⟨0,rfl,fun s k h=>by cases h⟩,⟨by simpa using lt_of_block V1,_,_,(gK V0 (.bool false)).2⟩,KK.set _ _ (.inr (.inl rfl))⟩
  obtain⟨V0,-,-⟩:=W0;obtain⟨q0,q1,q2,q3,qf⟩:=aI V0;clear S0 N0 KK;go_wp2;exact bodyPost_ret (v:=.int .i64 0) (by simp[results,Tryz.results108,go_sem]) rfl HR.out
 ·have hwb:((wi:Int)==4)=false:=by simp;omega
  have S0x:SlN w0 (Nf2 wb kb) (Fs.nil.app (Fs.ex t (Fs.ex x .nil))) ao:=by rw[HK.out] at S0;exact S0
  obtain⟨gb,off,ak,ck,hao,y0,y1,y2,y3,SK⟩:=SlN.kidP S0x 0 rfl;subst hao;simp only[Nat.zero_mul,Nat.add_zero] at y0 y1 y2 y3;have c1:=DY IH t ak ck wb kb bv cells ar (wi+1) s w0 (by omega) hft (by omega) (by omega) hne W0 N0 SK;have hcast:((wi+1:Nat):Int)=(wi:Int)+1:=rfl;have hcast2:((ar+1:Nat):Int)=(ar:Int)+1:=rfl;rw[ah,hcast] at c1;go_wp2_with fail;refine c1.mono ?_;rintro z wc ⟨rfl,W1,K1⟩;have E1:=(K1.block _ (lt_of_block E0) hb1 hb2).trans E0;have S1:SlN wc (Nf2 wb kb) ((Fs.ex t .nil).app (Fs.ex x .nil)) (some ⟨gb,off,none⟩):=by
   have:=S0.kp K1
   rw[HK.out] at this;exact this
  have N1:=N0.kp K1;have KW:=KK.trans K1;clear c1 p0 p1 p2 p3 pf y0 y1 y2 y3 SK S0x S0 W0 N0 E0 K1 KK;obtain⟨p0,p1,p2,p3,pf⟩:=aI E1;have hbl:=lt_of_block E1;obtain⟨gb',off',ak,ck,hao,hgl,hgp,x0,x1,x2,x3,SK⟩:=SlN.kidQ (x:=Fs.ex t .nil) (r:=.nil) (ks:=x.kids) (k:=x.k) (n:=x.n) (nm:=x.nm) (a:=x.a) S1;injection hao with hao
  injection hao with h1 h2
  subst h1;subst h2;have hlt1:(Fs.ex t .nil).len=1:=rfl;simp only[hlt1,Nat.one_mul] at x0 x1 x2 x3;have bdT:Below wc.heap.size wc wc.drew:=⟨rfl,rfl,rfl,Nat.le_refl _,fun _ _=>rfl⟩
  have hbo4:cG e.n≠4:=by unfold cG;split<;>omega
  have c3:=iL IH x ak ck wb kb bv cells (ar+1) (wi+1) (cG e.n) (bG cells (some s) 4 t ar (wi+1)) wc.drew (fun _=>by omega) hfx (by omega) (by omega) hne (fun _=>hbo4) (W1.below bdT) (N1.below bdT) (SK.belowP bdT);rw[ah,hcast,hcast2] at c3;have c3:=fun (a1 a2:Int) (h1:a1=(ar:Int)+1) (h2:a2=(wi:Int)+1)=>(by rw[h1,h2];exact c3:Calls Tryz.prog 106 #[.pointer (some ⟨wb,0,none⟩),.agg #[.int .i64 x.k,.int .i64 x.n,stv x.nm,.slice ak x.kids.len ck],.int .i64 a1,.int .i64 a2,.int .i64 (cG e.n)] wc.drew (fP wc.drew wb kb bv cells.length (bG cells (bG cells (some s) 4 t ar (wi+1)) (cG e.n) x (ar+1) (wi+1))));have hbq:=fun wy=>xO e.n wy;have hwq:=fun wy=>nX e.n wy;obtain⟨bo,hbo'⟩:∃bo,bo=cG e.n:=⟨_,rfl⟩
  rw[<-hbo'] at c3 hbq ⊢;have hrb:Hid (cG e.n=bo):=hbo'.symm;obtain⟨st2,hst2⟩:∃st2,st2=bG cells (bG cells (some s) 4 t ar (wi+1)) bo x (ar+1) (wi+1):=⟨_,rfl⟩
  rw[<-hst2] at c3;have HST:Hid (anD (bG cells (bG cells (some s) 4 t ar (wi+1)) bo x (ar+1) (wi+1)) (cm e.n)=anD st2 (cm e.n)):=by show _=_;rw[hst2]
  clear hst2 hbo' hbo4 W1 N1 SK S1 IH HK HL hsz hft hfx hf hN h4 hwb hcast hcast2 hlt1 p0 p2 pf;go_upto_region 5 with fail;go_cut [] (fun wx=>WD wx wb kb bv cells.length st2/\Kp wb kb wc wx)
  case first =>
   go_wp2_with fail;go_region_held3 (fun wx=>wx.cell? ⟨bx,1,none⟩=some (.int .i64 e.n)/\wx.cell? ⟨bx,3,none⟩=some (.slice (some ⟨gb,off,none⟩) 2 cap)/\wx.cell? ⟨gb,off+4,none⟩=some (.int .i64 x.k)/\wx.cell? ⟨gb,off+4+1,none⟩=some (.int .i64 x.n)/\wx.cell? ⟨gb,off+4+2,none⟩=some (stv x.nm)/\wx.cell? ⟨gb,off+4+3,none⟩=some (.slice ak x.kids.len ck))
    (first|exact KA|go_keep)
    (first
     | (go_at_call 171;refine(hbq _).mono ?_;rintro z w3 ⟨rfl,rfl⟩)
     | (go_at_call 106;refine(c3 _ _ ?_ ?_).mono ?_;(rw[IntKind.wrap_i64];omega);(rw[IntKind.wrap_i64];omega);rintro z w3 ⟨rfl,W3,K3⟩;have KA:w3.cell? ⟨bx,1,none⟩=some (.int .i64 e.n)/\w3.cell? ⟨bx,3,none⟩=some (.slice (some ⟨gb,off,none⟩) 2 cap)/\w3.cell? ⟨gb,off+4,none⟩=some (.int .i64 x.k)/\w3.cell? ⟨gb,off+4+1,none⟩=some (.int .i64 x.n)/\w3.cell? ⟨gb,off+4+2,none⟩=some (stv x.nm)/\w3.cell? ⟨gb,off+4+3,none⟩=some (.slice ak x.kids.len ck):=⟨(K3.cell hbl hb1 hb2 _).trans p1,(K3.cell hbl hb1 hb2 _).trans p3,(K3.cell hgl hgp.1 hgp.2 _).trans x0,(K3.cell hgl hgp.1 hgp.2 _).trans x1,(K3.cell hgl hgp.1 hgp.2 _).trans x2,(K3.cell hgl hgp.1 hgp.2 _).trans x3⟩))
   all_goals (
    have HZ:Hid (WD w3 wb kb bv cells.length st2/\Kp wb kb wc w3):=⟨W3,Kp.bel bdT K3⟩
    clear KA W3 K3 c3 hbq;go_wp2;go_meet;exact HZ.out)
  case rest =>
   obtain⟨W3,K3⟩:=hcut;have E3:=(K3.block _ hbl hb1 hb2).trans E1;obtain⟨p0,p1,p2,p3,pf⟩:=aI E3;have HR:Hid (aT w wb kb bv cells.length (anD (bG cells (bG cells (some s) 4 t ar (wi+1)) bo x (ar+1) (wi+1)) (cm e.n)) (.returned (.int .i64 (cm e.n))) wc):=cO HST.out W3 (KW.trans K3);clear W3 K3 KW HST E1 E3;generalize cm e.n=wh at *;go_wp2_with (go_at_call 172;refine(hwq _).mono ?_;rintro z w4 ⟨rfl,rfl⟩);go_wp2;exact bodyPost_ret (v:=.int .i64 wh) (by simp[results,Tryz.results108,go_sem]) rfl (by rw[hrb.out];exact HR.out)
open Go.ChangeShapes Go.WideShapes Go.ChangeAt Go.RowKit Go.Maps
abbrev Lt0 (n0:Nat):Nat->Prop:=fun k=>k<n0
structure RD (w:World)(n0 rb mb:Nat)(bv:Value)(c:Nat)(s:Rg):Prop where
 blk:w.heap[rb]?=some (.cells #[bv,.map (some mb),.int .i64 (s.1:Nat)] 197 (0,0))
 mp:∃m,m+c<=s.1/\MpN w (Lt0 n0) mb m s.2
 le:s.1<=4096
 fit:∀ i y,s.2 i=some y->cu y
theorem RD.ltm {w:World}{n0 rb mb c:Nat}{bv:Value}{s:Rg}(h:RD w n0 rb mb bv c s):mb<w.heap.size:=by obtain⟨m,-,h⟩:=h.mp;exact h.lt
theorem RD.less {w:World}{n0 rb mb c:Nat}{bv:Value}{s:Rg}(h:RD w n0 rb mb bv (c+1) s):RD w n0 rb mb bv c s:=⟨h.blk,by obtain⟨m,hm,hp⟩:=h.mp;exact⟨m,by omega,hp⟩,h.le,h.fit⟩
theorem RD.below {w w':World}{n0 rb mb c:Nat}{bv:Value}{s:Rg}(h:RD w n0 rb mb bv c s)(b:Below w.heap.size w w'):RD w' n0 rb mb bv c s:=by
 refine⟨(b.block _ (lt_of_block h.blk)).trans h.blk,?_,h.le,h.fit⟩;obtain⟨m,hm,hp⟩:=h.mp;exact⟨m,hm,hp.mono (b.block _ hp.lt) (fun i _ hl=>b.block i hl) b.size⟩
def j7 (w:World)(n0 rb mb:Nat)(bv:Value)(c:Nat)(r:Option Rg)(x:Ending)(w':World):Prop:=x=.returned (.bool r.isSome)/\(∀ s,r=some s->RD w' n0 rb mb bv c s)/\Kp rb mb w w'
theorem yU {cells:List Int}{i:Nat}{x:Ex}{ar:Nat}{s:Rg}{lv:Int}(h:cells[i]?=some lv):cT cells (i:Nat) (Fs.ex x .nil) ar s=if (ar:Int)<lv\/lv<hgE x ar then none else (match s.2 i with|none=>some (s.1,fun j=>if j=i then some x else s.2 j)|some y=>if br y x=true then some s else none):=by
 have hh:(Fs.ex x .nil).head=x:=rfl;simp only[cT,Int.toNat_natCast,h,hh];rfl
theorem AA (k0:Int)(i:Nat)(nm:List UInt8)(x:Ex)(ao:Option Addr)(cap n0 rb mb:Nat)(bv:Value)(cells:List Int)(ar wi:Nat)(s:Rg)(w:World)(hi:i<cells.length)(hcl:cells.length<=256)(hfx:cu x)(hnv:x.nv)(har:ar<=100)(hwi:wi<=100)(hne:rb≠mb)(hn0:n0<=mb)(c:Nat)(h:RD w n0 rb mb bv (c+1) s)(hn:Inw w (Lt0 n0) bv cells)(S:SlN w (Lt0 n0) (Fs.ex x .nil) ao) :
  Calls Tryz.prog 219 #[.pointer (some ⟨rb,0,none⟩),.agg #[.int .i64 k0,.int .i64 (i:Nat),stv nm,.slice ao 1 cap],.agg #[.int .i64 (ar:Nat),.int .i64 (wi:Nat)]] w (j7 w n0 rb mb bv c (cT cells (i:Nat) (Fs.ex x .nil) ar s)):=by
 obtain⟨R,hR⟩:∃R,R=cT cells (i:Nat) (Fs.ex x .nil) ar s:=⟨_,rfl⟩
 rw[<-hR];obtain⟨lv,hlv⟩:∃lv,cells[i]?=some lv:=⟨_,List.getElem?_eq_getElem hi⟩
 have HR:Hid (R=if (ar:Int)<lv\/lv<hgE x ar then none else (match s.2 i with|none=>some (s.1,fun j=>if j=i then some x else s.2 j)|some y=>if br y x=true then some s else none)):=hR.trans (yU hlv);clear hR;obtain⟨gb,off,ak,ck,hao,hgl,hgp,y0,y1,y2,y3,SK⟩:=SlN.kidQ (x:=.nil) (r:=.nil) (ks:=x.kids) (k:=x.k) (n:=x.n) (nm:=x.nm) (a:=x.a) S;subst hao;have hl0:(Fs.nil).len=0:=rfl;simp only[hl0,Nat.zero_mul,Nat.add_zero] at y0 y1 y2 y3;obtain⟨aoc,capc,rfl,hcells⟩:=hn;rcases hcells with hcells|⟨cb,coff,rfl,hcp,hcb,hcc⟩
 ·subst hcells;simp at hi
 have ccl:=hcc i lv hlv;clear hcc S;have hiI:(i:Int)<(cells.length:Int):=by omega
 obtain⟨w0,hw0⟩:∃w0,w0=(w.alloc (.cells #[.int .i64 k0,.int .i64 (i:Nat),stv nm,.slice (some ⟨gb,off,none⟩) 1 cap] 34)).alloc (.cells #[.int .i64 (ar:Nat),.int .i64 (wi:Nat)] 200):=⟨_,rfl⟩
 have B0:Below w.heap.size w w0:=by rw[hw0];exact((Below.refl _ w).alloc (Nat.le_refl _) _).alloc (by simp) _
 have E0:w0.heap[w.heap.size]?=some (.cells #[.int .i64 k0,.int .i64 (i:Nat),stv nm,.slice (some ⟨gb,off,none⟩) 1 cap] 34):=by
  rw[hw0];exact(Below.heap_alloc _ _ _ (by simp)).trans (heap_alloc_new w _)
 have T0:w0.heap[w.heap.size+1]?=some (.cells #[.int .i64 (ar:Nat),.int .i64 (wi:Nat)] 200):=by
  rw[hw0]
  have:=heap_alloc_new (w.alloc (.cells #[.int .i64 k0,.int .i64 (i:Nat),stv nm,.slice (some ⟨gb,off,none⟩) 1 cap] 34)) (.cells #[.int .i64 (ar:Nat),.int .i64 (wi:Nat)] 200)
  simpa using this
 have R0:=h.below B0;have hrl:=lt_of_block h.blk;have hml:=h.ltm;have SK0:=SK.belowP B0;have Y0:=(B0.cell (p:=⟨gb,off,none⟩) hgl).trans y0;have Y1:=(B0.cell (p:=⟨gb,off+1,none⟩) hgl).trans y1;have Y2:=(B0.cell (p:=⟨gb,off+2,none⟩) hgl).trans y2;have Y3:=(B0.cell (p:=⟨gb,off+3,none⟩) hgl).trans y3;have CC0:=(B0.cell (p:=⟨cb,coff+i,none⟩) hcb).trans ccl;have hgl0:=Nat.lt_of_lt_of_le hgl B0.size;have hcb0:=Nat.lt_of_lt_of_le hcb B0.size;have KK:Kp rb mb w w0:=Kp.ofBelow B0;go_enter Tryz.func219,Tryz.ntmps219;go_upto_region 1 with fail;rw[<-hw0];obtain⟨bx,hbx⟩:∃bx,bx=w.heap.size:=⟨_,rfl⟩
 rw[<-hbx] at E0 T0 ⊢;have hb1:bx≠rb:=by omega
 have hb2:bx≠mb:=by omega
 have hs1:bx+1≠rb:=by omega
 have hs2:bx+1≠mb:=by omega
 clear hbx hw0 B0 hrl hml y0 y1 y2 y3 ccl hgl hcb h SK;have hbl:=lt_of_block E0;have hsl:=lt_of_block T0;obtain⟨p0,p1,p2,p3,pf⟩:=aI E0;obtain⟨t0,t1,tf⟩:=eY T0;obtain⟨r0,r1,r2,rf⟩:=it R0.blk;have hrl:=lt_of_block R0.blk;go_wp2_with fail;go_region_held3 (fun wx=>wx.cell? ⟨bx,1,none⟩=some (.int .i64 (i:Nat))/\wx.cell? ⟨bx,3,none⟩=some (.slice (some ⟨gb,off,none⟩) 1 cap)/\wx.cell? ⟨rb,0,none⟩=some (.slice (some ⟨cb,coff,none⟩) cells.length capc)/\wx.cell? ⟨cb,coff+i,none⟩=some (.int .i64 lv)/\wx.cell? ⟨gb,off,none⟩=some (.int .i64 x.k)/\wx.cell? ⟨gb,off+1,none⟩=some (.int .i64 x.n)/\wx.cell? ⟨gb,off+2,none⟩=some (stv x.nm)/\wx.cell? ⟨gb,off+3,none⟩=some (.slice ak x.kids.len ck)) (go_keep) (fail);have B1:Below w0.heap.size w0 ((w0.alloc (.cells #[.int .i64 x.k,.int .i64 x.n,stv x.nm,.slice ak x.kids.len ck] 34)).drew):=(Below.refl _ w0).alloc (Nat.le_refl _) _ |>.trans ⟨rfl,rfl,rfl,Nat.le_refl _,fun _ _=>rfl⟩
 have X1:((w0.alloc (.cells #[.int .i64 x.k,.int .i64 x.n,stv x.nm,.slice ak x.kids.len ck] 34)).drew).heap[w0.heap.size]?=some (.cells #[.int .i64 x.k,.int .i64 x.n,stv x.nm,.slice ak x.kids.len ck] 34):=heap_alloc_new w0 _;have R1:=R0.below B1;have E1:=(B1.block _ hbl).trans E0;have T1:=(B1.block _ hsl).trans T0;have SK1:=SK0.belowP B1;have KK1:=KK.trans (Kp.ofBelow B1);have hxr:w0.heap.size≠rb:=by omega
 have hxm:w0.heap.size≠mb:=by have:=R0.ltm;omega
 have hxb:Hid (bx<w0.heap.size/\bx+1<w0.heap.size):=⟨hbl,hsl⟩
 clear p0 p1 p2 p3 pf t0 t1 tf r0 r1 r2 rf R0 E0 T0 SK0 KK Y0 Y1 Y2 Y3 CC0 hgl0 hcb0 hbl hsl hrl B1;generalize (w0.alloc (.cells #[.int .i64 x.k,.int .i64 x.n,stv x.nm,.slice ak x.kids.len ck] 34)).drew=w1 at *;generalize w0.heap.size=xb at *;obtain⟨p0,p1,p2,p3,pf⟩:=aI E1;obtain⟨t0,t1,tf⟩:=eY T1;obtain⟨r0,r1,r2,rf⟩:=it R1.blk;obtain⟨z0,z1,z2,z3,zf⟩:=aI X1;by_cases hlt:(ar:Int)<lv
 ·have HF:Hid (j7 w n0 rb mb (.slice (some ⟨cb,coff,none⟩) cells.length capc) c R (.returned (.bool false)) w1):=by
   rw[HR.out,if_pos (.inl hlt)];exact⟨rfl,fun s h=>(by cases h),KK1⟩
  clear HR R1 E1 T1 X1 SK1 KK1;go_wp2;go_ret;exact HF.out
 have c1:=pd (x.kids.size+1) x ak ck ar w1 (by omega) hfx.len hfx.sh hnv (by omega) (by omega) SK1.all;rw[ah] at c1;generalize hgE x ar=hx at *;go_wp2_with fail;refine c1.mono ?_;rintro z w2 ⟨rfl,B2⟩;have R2:=R1.below B2;have E2:=(B2.block _ (lt_of_block E1)).trans E1;have T2:=(B2.block _ (lt_of_block T1)).trans T1;have X2:=(B2.block _ (lt_of_block X1)).trans X1;have SK2:=SK1.belowP B2;have KK2:=KK1.trans (Kp.ofBelow B2);clear c1 p0 p1 p2 p3 pf t0 t1 tf r0 r1 r2 rf z0 z1 z2 z3 zf R1 E1 T1 X1 SK1 KK1 B2;obtain⟨p0,p1,p2,p3,pf⟩:=aI E2;obtain⟨t0,t1,tf⟩:=eY T2;obtain⟨r0,r1,r2,rf⟩:=it R2.blk;obtain⟨z0,z1,z2,z3,zf⟩:=aI X2;by_cases hlh:lv<hx
 ·have HF:Hid (j7 w n0 rb mb (.slice (some ⟨cb,coff,none⟩) cells.length capc) c R (.returned (.bool false)) w2):=by
   rw[HR.out,if_pos (.inr hlh)];exact⟨rfl,fun s h=>(by cases h),KK2⟩
  clear HR R2 E2 T2 X2 SK2 KK2;go_wp2;go_ret;exact HF.out
 have HR2:Hid (R=(match s.2 i with|none=>some (s.1,fun j=>if j=i then some x else s.2 j)|some y=>if br y x=true then some s else none)):=by show R=_;rw[HR.out,if_neg (by omega)]
 clear HR;have hwf:(Lit.int .i64 (i:Nat)).wf=true:=WalkArith.wf_i64 (by omega);obtain⟨m,hm,M2⟩:=R2.mp;have hml:=M2.lt;have hrl:=lt_of_block R2.blk;have hbl:=lt_of_block E2;have hxl:=lt_of_block X2;have bdT:Below w2.heap.size w2 w2.drew:=⟨rfl,rfl,rfl,Nat.le_refl _,fun _ _=>rfl⟩
 have M2d:MpN w2.drew (Lt0 n0) mb m s.2:=M2.mono rfl (fun _ _ _=>rfl) (Nat.le_refl _);have bdA:Below w2.heap.size w2 ((w2.alloc (.cells #[.int .i64 0,.int .i64 0,.string ⟨#[]⟩,.slice none 0 0] 34)).drew):=(Below.refl _ w2).alloc (Nat.le_refl _) _ |>.trans ⟨rfl,rfl,rfl,Nat.le_refl _,fun _ _=>rfl⟩
 have M2a:MpN ((w2.alloc (.cells #[.int .i64 0,.int .i64 0,.string ⟨#[]⟩,.slice none 0 0] 34)).drew) (fun i=>i<w2.heap.size) mb m s.2:=M2.monoQ (bdA.block _ hml) (fun i _ hl=>bdA.block i hl) bdA.size (fun i _ hl=>hl);cases ht:s.2 i with
 | none =>
  obtain⟨a1,a2,a3,a4,a5,a6,lk1⟩:=M2d.miss hwf ht;obtain⟨d1,d2,d3,d4,d5,d6,lk2⟩:=M2a.miss hwf ht;have HF:Hid (∀ w3:World,Below w2.heap.size w2 w3->∃w4,(Instr.mapUpdate 195 (.map (some mb)) (.int .i64 (i:Nat)) (exN x ak ck)).run Tryz.prog w3.drew=.ok () w4/\j7 w n0 rb mb (.slice (some ⟨cb,coff,none⟩) cells.length capc) c R (.returned (.bool true)) w4):=by
   intro w3 b3;have b3d:Below w2.heap.size w2 w3.drew:=b3.trans ⟨rfl,rfl,rfl,Nat.le_refl _,fun _ _=>rfl⟩;have M3:MpN w3.drew (Lt0 n0) mb m s.2:=M2.mono (b3d.block _ hml) (fun i _ hl=>b3d.block i hl) b3d.size;obtain⟨w4,hr4,M4,ht4⟩:=M3.put (fun h=>Nat.not_lt.2 hn0 h) i x ak ck hwf (by have:=R2.le;omega) ht (SK2.belowP b3d);have hg4:=ht4.grown;refine⟨w4,hr4,?_⟩;rw[HR2.out,ht];refine⟨rfl,fun s' hs'=>?_,KK2.trans ((Kp.ofBelow b3d).trans ⟨hg4.os,hg4.tape,hg4.output,hg4.size,fun k hk h1 h2=>hg4.block k hk (fun e=>h2 (by cases e;rfl))⟩)⟩;injection hs' with hs'
   subst hs';refine⟨(hg4.block _ (Nat.lt_of_lt_of_le hrl b3d.size) (fun e=>hne (by cases e;rfl))).trans ((b3d.block _ hrl).trans R2.blk),?_,R2.le,?_⟩
   ·exact⟨m+1,by show m+1+c<=s.1;omega,M4.mono rfl (fun _ _ _=>rfl) (Nat.le_refl _)⟩
   ·intro j y hy;simp only at hy;split at hy
    ·injection hy with hy
     subst hy;exact hfx
    ·exact R2.fit j y hy
  go_upto_region 4 with fail;go_cut [9,10] (fun v9 v10 wx=>v10=.bool false/\Below w2.heap.size w2 wx)
  case first =>
   go_wp2_with fail;go_region_held3 (fun wx=>wx.cell? ⟨bx,1,none⟩=some (.int .i64 (i:Nat))/\wx.cell? ⟨rb,1,none⟩=some (.map (some mb))) (go_keep) (fail)
   all_goals (
    have HB:Hid (∀ ob:Obj,Below w2.heap.size w2 ((w2.alloc ob).drew)):=fun ob=>(Below.refl _ w2).alloc (Nat.le_refl _) _ |>.trans ⟨rfl,rfl,rfl,Nat.le_refl _,fun _ _=>rfl⟩
    go_wp2;go_meet;exact⟨rfl,HB.out _⟩)
  case rest =>
   obtain⟨rfl,B3⟩:=hcut;obtain⟨w4,hr4,HP⟩:=HF.out wc B3;rw[ah] at hr4;have HQ:Hid (j7 w n0 rb mb (.slice (some ⟨cb,coff,none⟩) cells.length capc) c R (.returned (.bool true)) w4):=HP;have p1':=(B3.cell (p:=⟨bx,1,none⟩) hbl).trans p1;have r1':=(B3.cell (p:=⟨rb,1,none⟩) hrl).trans r1;have z0':=(B3.cell (p:=⟨xb,0,none⟩) hxl).trans z0;have z1':=(B3.cell (p:=⟨xb,1,none⟩) hxl).trans z1;have z2':=(B3.cell (p:=⟨xb,2,none⟩) hxl).trans z2;have z3':=(B3.cell (p:=⟨xb,3,none⟩) hxl).trans z3;clear HF HP p0 p1 p2 p3 pf t0 t1 tf r0 r1 r2 rf z0 z1 z2 z3 zf R2 E2 T2 X2 SK2 KK2 M2 M2d M2a lk1 lk2 HR2 bdT bdA;go_wp2_with fail;go_region;go_wp2;go_ret;exact HQ.out
 | some y =>
  obtain⟨ay,cy,lk1,SY1⟩:=M2d.look hwf ht;obtain⟨ay2,cy2,lk2,SY2⟩:=M2a.look hwf ht;have hfy:=R2.fit i y ht;have HR3:Hid (R=if br y x=true then some s else none):=by show R=_;rw[HR2.out,ht]
  rw[ah] at lk1 lk2;go_upto_region 4 with fail;go_cut [9,10] (fun v9 v10 wx=>v9=.pointer (some ⟨w2.heap.size,0,none⟩)/\v10=.bool true/\Below w2.heap.size w2 wx/\∃az cz,wx.heap[w2.heap.size]?=some (.cells #[.int .i64 y.k,.int .i64 y.n,stv y.nm,.slice az y.kids.len cz] 34 (0,0))/\SnA wx y.kids az)
  case first =>
   have HB:Hid (∀ ob:Obj,Below w2.heap.size w2 ((w2.alloc ob).drew)/\((w2.alloc ob).drew).heap[w2.heap.size]?=some ob):=fun ob=>⟨(Below.refl _ w2).alloc (Nat.le_refl _) _ |>.trans ⟨rfl,rfl,rfl,Nat.le_refl _,fun _ _=>rfl⟩,heap_alloc_new w2 ob⟩;have HY1:Hid (∀ ob:Obj,SnA ((w2.alloc ob).drew) y.kids ay):=fun ob=>SlN.all (SlN.mono (w:=w2) (P:=Lt0 n0) (Q:=Lt0 n0) (fun i _ hl=>(HB.out ob).1.block i hl) (HB.out ob).1.size (fun _ h _=>h) (SlN.mono (w:=w2.drew) (w':=w2) (fun _ _ _=>rfl) (Nat.le_refl _) (fun _ h _=>h) SY1));have HY2:Hid (∀ ob:Obj,SnA ((w2.alloc ob).drew) y.kids ay2):=fun ob=>SlN.all (SlN.mono (Q:=fun i=>i<w2.heap.size) (fun i hi _=>((HB.out ob).1.block i hi).trans (bdA.block i hi).symm) (by show (w2.alloc _).heap.size<=(w2.alloc _).heap.size;simp) (fun _ h _=>h) SY2);clear SY1 SY2 M2 M2d M2a HR2 HR3;go_wp2_with fail;go_region_held3 (fun wx=>wx.cell? ⟨bx,1,none⟩=some (.int .i64 (i:Nat))/\wx.cell? ⟨rb,1,none⟩=some (.map (some mb))) (go_keep) (fail)
   ·go_wp2;go_meet;exact⟨rfl,rfl,(HB.out _).1,_,_,(HB.out _).2,HY1.out _⟩
   ·go_wp2;go_meet;exact⟨rfl,rfl,(HB.out _).1,_,_,(HB.out _).2,HY2.out _⟩
  case rest =>
   obtain⟨rfl,rfl,B3,az,cz,Z3,SZ⟩:=hcut;have c8:=tV (y.kids.size+1) y x az ak cz ck wc (by omega) hfy.len hfy.sh hfx.len hfx.sh SZ (SK2.belowP B3).all;rw[ah,ah] at c8;have HF:Hid (∀ w4,Below wc.heap.size wc w4->j7 w n0 rb mb (.slice (some ⟨cb,coff,none⟩) cells.length capc) c R (.returned (.bool (br y x))) w4):=by
    intro w4 b4;have b24:Below w2.heap.size w2 w4:=B3.trans (b4.mono B3.size);rw[HR3.out];cases hsm:br y x with
    | false=>exact⟨rfl,fun s h=>(by cases h),KK2.trans (Kp.ofBelow b24)⟩
    | true=>exact⟨rfl,fun s' h=>(by injection h with h;subst h;exact(R2.below b24).less),KK2.trans (Kp.ofBelow b24)⟩
   have z0':=(B3.cell (p:=⟨xb,0,none⟩) hxl).trans z0;have z1':=(B3.cell (p:=⟨xb,1,none⟩) hxl).trans z1;have z2':=(B3.cell (p:=⟨xb,2,none⟩) hxl).trans z2;have z3':=(B3.cell (p:=⟨xb,3,none⟩) hxl).trans z3;obtain⟨v0,v1,v2,v3,vf⟩:=aI Z3;generalize br y x=sm at *;clear p0 p1 p2 p3 pf t0 t1 tf r0 r1 r2 rf z0 z1 z2 z3 zf R2 E2 T2 X2 SK2 KK2 M2 M2d M2a lk1 lk2 HR2 HR3 bdT bdA SZ SY1 SY2;go_wp2_with fail;refine c8.mono ?_;rintro z w4 ⟨rfl,B4⟩;have HQ:=HF.out w4 B4;clear c8 HF;go_wp2;go_ret;exact HQ
end Go.Proofs.YtbjdkekhnajafaaGreatDoor
