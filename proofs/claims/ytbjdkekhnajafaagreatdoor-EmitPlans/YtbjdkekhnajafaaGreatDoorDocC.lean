import Derived.Test.YtbjdkekhnajafaaGreatDoorNodS
set_option maxRecDepth 100000
set_option maxHeartbeats 8000000
namespace Go.Proofs.YtbjdkekhnajafaaGreatDoor
open Go.ChangeShapes Go.WideShapes Go.ChangeAt Go.RowKit
set_option linter.unusedVariables false
set_option linter.unusedSimpArgs false
def kM (N:Nat):Prop:=∀ (e e2:Ex) (ao ao2:Option Addr) (cap cap2:Nat) (w:World),e.kids.size<N->e.kids.len<=1000000000->e.kids.short->e2.kids.len<=1000000000->e2.kids.short->SnA w e.kids ao->SnA w e2.kids ao2 ->
 Calls Tryz.prog 266 #[exN e ao cap,exN e2 ao2 cap2] w fun x w'=>x=.returned (.bool (br e e2))/\Below w.heap.size w w'
def D6 (N:Nat):Prop:=∀ (f g:Fs) (ao ao2:Option Addr) (cap cap2:Nat) (w:World),f.size<=N->f.len<=1000000000->f.short->g.len<=1000000000->g.short->SnA w f ao->SnA w g ao2 ->
 Calls Tryz.prog 289 #[.slice ao f.len cap,.slice ao2 g.len cap2,.func (.func 266) #[] #[]] w fun x w'=>x=.returned (.bool (cZ f g))/\Below w.heap.size w w'
theorem Du {N:Nat}(H:kM N):D6 N:=by
 intro f g ao ao2 cap cap2 w hN hlen hsh hlen2 hsh2 S S2;obtain⟨W,hW⟩:∃W,W=cZ f g:=⟨_,rfl⟩
 rw[<-hW];have HW:Hid (W=cZ f g):=hW;clear hW;go_enter Tryz.func289,Tryz.ntmps289;by_cases hl:f.len=g.len
 ·have hI:((f.len:Int) != (g.len:Int))=false:=by rw[hl];simp
  have hIe:((f.len:Int)==(g.len:Int))=true:=by rw[hl];simp
  have HL:Hid (f.len=g.len):=hl;clear hl;go_wp2;go_loopw [17] (fun v wr=>∃(d r d2 r2:Fs),Hid (f=d.app r)/\Hid (g=d2.app r2)/\Hid (d2.len=d.len)/\v=.int .i64 (d.len:Nat)/\Hid (cZ r r2=W)/\Below w.heap.size w wr) (fun v _=>f.len-(intOf v).toNat)
  case atStart=>exact⟨.nil,f,.nil,g,rfl,rfl,rfl,by show _=Value.int .i64 ((0:Nat):Int);rfl,HW.out.symm,Below.refl _ _⟩
  case round =>
   obtain⟨d,r,d2,r2,hf,hg,hd,rfl,HA,B1⟩:=hrel;have hlf:f.len=d.len+r.len:=by rw[hf.out,Fs.len_app]
   have hlg:g.len=d2.len+r2.len:=by rw[hg.out,Fs.len_app]
   have hrr:r.len=r2.len:=by have:=HL.out;have:=hd.out;omega
   have HRR:Hid (r.len=r2.len):=hrr;clear HW hlg hrr hI hIe;cases r using Fs.on with
   | nil =>
    have hl0:¬(d.len:Int)<(f.len:Int):=by simp only[Fs.len] at hlf;omega
    have FIN:Hid (W=true):=by
     show W=true;rw[<-HA.out];cases r2 using Fs.on with
     | nil=>rfl
     | cons k n nm a ks r=>have:=HRR.out;simp only[Fs.len] at this;omega
    clear HA hlf HRR;go_wp2;go_ret;rw[FIN.out];exact⟨rfl,B1⟩
   | cons kk kn km ka kks kr =>
    cases r2 using Fs.on with
    | nil=>have:=HRR.out;simp only[Fs.len] at this;omega
    | cons jk jn jm ja jks jr =>
    have hl0:(d.len:Int)<(f.len:Int):=by simp only[Fs.len] at hlf;omega
    have hl1:d.len<f.len:=by omega
    have hl2:d.len<g.len:=by have:=HL.out;omega
    have hl3:(d.len:Int)<(g.len:Int):=by omega
    have hsz:f.size=d.size+(kks.size+kr.size+1):=by rw[hf.out,Fs.size_app];rfl
    have hsk:(Fs.cons kk kn km ka kks kr).short:=Fs.app_short (by rw[<-hf.out];exact hsh);have hsj:(Fs.cons jk jn jm ja jks jr).short:=Fs.app_short (by rw[<-hg.out];exact hsh2);obtain⟨b,off,ak,ck,hao,lb1,-,x0,x1,x2,x3,SK⟩:=SlN.kidQ (by rw[<-hf.out];exact SnA.below S B1);obtain⟨b',off',aj,cj,hao',lb2,-,y0,y1,y2,y3,TK⟩:=SlN.kidQ (by rw[<-hg.out];exact SnA.below S2 B1);subst hao hao';rw[hd.out] at y0 y1 y2 y3;have b2:Below wr.heap.size wr (wr.alloc (.cells #[.int .i64 kk,.int .i64 kn,stv km,.slice ak kks.len ck] 34)):=(Below.refl _ wr).alloc (Nat.le_refl _) _;have K2:(wr.alloc (.cells #[.int .i64 kk,.int .i64 kn,stv km,.slice ak kks.len ck] 34)).heap[wr.heap.size]?=some (.cells #[.int .i64 kk,.int .i64 kn,stv km,.slice ak kks.len ck] 34):=heap_alloc_new wr _;have B2:=B1.trans (b2.mono B1.size);have z0:=(b2.cell (p:=⟨b',off'+d.len*4,none⟩) lb2).trans y0;have z1:=(b2.cell (p:=⟨b',off'+d.len*4+1,none⟩) lb2).trans y1;have z2:=(b2.cell (p:=⟨b',off'+d.len*4+2,none⟩) lb2).trans y2;have z3:=(b2.cell (p:=⟨b',off'+d.len*4+3,none⟩) lb2).trans y3;have SK2:=SnA.below SK b2;have TK2:=SnA.below TK b2;clear y0 y1 y2 y3 hlf;go_upto_region 6 with fail;generalize wr.alloc (.cells #[.int .i64 kk,.int .i64 kn,stv km,.slice ak kks.len ck] 34)=w2 at *;generalize wr.heap.size=bk at *;clear x0 x1 x2 x3 b2 SK TK B1;have b3:Below w2.heap.size w2 (w2.alloc (.cells #[.int .i64 jk,.int .i64 jn,stv jm,.slice aj jks.len cj] 34)):=(Below.refl _ w2).alloc (Nat.le_refl _) _;have J3:(w2.alloc (.cells #[.int .i64 jk,.int .i64 jn,stv jm,.slice aj jks.len cj] 34)).heap[w2.heap.size]?=some (.cells #[.int .i64 jk,.int .i64 jn,stv jm,.slice aj jks.len cj] 34):=heap_alloc_new w2 _;have K3:=(b3.block _ (lt_of_block K2)).trans K2;have B3:=B2.trans (b3.mono B2.size);have SK3:=SnA.below SK2 b3;have TK3:=SnA.below TK2 b3;go_upto_region 7 with fail;generalize w2.alloc (.cells #[.int .i64 jk,.int .i64 jn,stv jm,.slice aj jks.len cj] 34)=w3 at *;generalize w2.heap.size=bj at *;clear z0 z1 z2 z3 b3 SK2 TK2 B2 K2;obtain⟨p0,p1,p2,p3,pf⟩:=aI K3;obtain⟨q0,q1,q2,q3,qf⟩:=aI J3;have c4:=H ⟨kk,kn,km,ka,kks⟩ ⟨jk,jn,jm,ja,jks⟩ ak aj ck cj w3 (by show kks.size<N;omega) hsk.2.1 hsk.2.2.1 hsj.2.1 hsj.2.2.1 SK3 TK3;rw[ah,ah] at c4;simp only at c4;have HA2:Hid ((br ⟨kk,kn,km,ka,kks⟩ ⟨jk,jn,jm,ja,jks⟩&&cZ kr jr)=W):=HA;have hf2:Hid (f=(d.snoc ⟨kk,kn,km,ka,kks⟩).app kr):=by show f=_;rw[hf.out];unfold Fs.snoc;rw[Fs.app_assoc];rfl
    have hg2:Hid (g=(d2.snoc ⟨jk,jn,jm,ja,jks⟩).app jr):=by show g=_;rw[hg.out];unfold Fs.snoc;rw[Fs.app_assoc];rfl
    have hd2:Hid ((d2.snoc ⟨jk,jn,jm,ja,jks⟩).len=(d.snoc ⟨kk,kn,km,ka,kks⟩).len):=by show _=_;rw[Fs.len_snoc,Fs.len_snoc,hd.out]
    have hl4:(d.len:Int)+1=((d.snoc ⟨kk,kn,km,ka,kks⟩).len:Nat):=by rw[Fs.len_snoc];rfl
    generalize br ⟨kk,kn,km,ka,kks⟩ ⟨jk,jn,jm,ja,jks⟩=cc at *;clear HA hf hg hd hsz hsk hsj SK3 TK3 K3 J3;go_wp2_with fail;refine c4.mono ?_;rintro x w4 ⟨rfl,b4⟩;have B4:=B3.trans (b4.mono B3.size);clear c4 p0 p1 p2 p3 pf q0 q1 q2 q3 qf b4 B3;cases cc with
    | false =>
     have FIN:Hid (W=false):=by show W=_;rw[<-HA2.out];rfl
     clear HA2;go_wp2;go_ret;rw[FIN.out];exact⟨rfl,B4⟩
    | true =>
     have HA3:Hid (cZ kr jr=W):=by show _=W;rw[<-HA2.out];rfl
     clear HA2;go_wp2;go_roundw
     case rel=>exact⟨_,kr,_,jr,hf2,hg2,hd2,by rw[<-hl4],HA3,B4⟩
     case measure=>simp[intOf];omega
 ·have hI:((f.len:Int) != (g.len:Int))=true:=by simp;omega
  have hI2:¬(f.len:Int)=(g.len:Int):=by omega
  have FIN:Hid (W=false):=by show W=_;rw[HW.out];exact jI f g hl
  clear HW;go_wp2;go_ret;rw[FIN.out];exact⟨rfl,Below.refl _ _⟩
theorem vC {N:Nat}(IH:kM N):kM (N+1):=by
 intro e e2 ao ao2 cap cap2 w hN hlen hsh hlen2 hsh2 S S2;obtain⟨W,hW⟩:∃W,W=br e e2:=⟨_,rfl⟩
 rw[<-hW];have HW:Hid (W=br e e2):=hW;clear hW;have B0:Below w.heap.size w ((w.alloc (.cells #[.int .i64 e.k,.int .i64 e.n,stv e.nm,.slice ao e.kids.len cap] 34)).alloc (.cells #[.int .i64 e2.k,.int .i64 e2.n,stv e2.nm,.slice ao2 e2.kids.len cap2] 34)):=((Below.refl _ w).alloc (Nat.le_refl _) _).alloc (by simp) _;have E0:((w.alloc (.cells #[.int .i64 e.k,.int .i64 e.n,stv e.nm,.slice ao e.kids.len cap] 34)).alloc (.cells #[.int .i64 e2.k,.int .i64 e2.n,stv e2.nm,.slice ao2 e2.kids.len cap2] 34)).heap[w.heap.size]?=some (.cells #[.int .i64 e.k,.int .i64 e.n,stv e.nm,.slice ao e.kids.len cap] 34):=(Below.heap_alloc _ _ _ (by simp)).trans (heap_alloc_new w _);have Y0:((w.alloc (.cells #[.int .i64 e.k,.int .i64 e.n,stv e.nm,.slice ao e.kids.len cap] 34)).alloc (.cells #[.int .i64 e2.k,.int .i64 e2.n,stv e2.nm,.slice ao2 e2.kids.len cap2] 34)).heap[w.heap.size+1]?=some (.cells #[.int .i64 e2.k,.int .i64 e2.n,stv e2.nm,.slice ao2 e2.kids.len cap2] 34):=by
  have:=heap_alloc_new (w.alloc (.cells #[.int .i64 e.k,.int .i64 e.n,stv e.nm,.slice ao e.kids.len cap] 34)) (.cells #[.int .i64 e2.k,.int .i64 e2.n,stv e2.nm,.slice ao2 e2.kids.len cap2] 34)
  simpa using this
 have S0:=SnA.below S B0;have T0:=SnA.below S2 B0;rw[ah,ah];go_enter Tryz.func266,Tryz.ntmps266;go_upto_region 1 with fail;generalize (w.alloc (.cells #[.int .i64 e.k,.int .i64 e.n,stv e.nm,.slice ao e.kids.len cap] 34)).alloc (.cells #[.int .i64 e2.k,.int .i64 e2.n,stv e2.nm,.slice ao2 e2.kids.len cap2] 34)=w0 at *;obtain⟨bx,hbx⟩:∃bx,bx=w.heap.size:=⟨_,rfl⟩
 rw[<-hbx] at E0 Y0 B0 ⊢;have HB:Hid (bx=w.heap.size):=hbx;clear hbx S S2;obtain⟨p0,p1,p2,p3,pf⟩:=aI E0;obtain⟨q0,q1,q2,q3,qf⟩:=aI Y0;by_cases h1:e.k=e2.k
 ·have h1b:(e.k==e2.k)=true:=by simp[h1]
  by_cases h2:e.n=e2.n
  ·have h2b:(e.n==e2.n)=true:=by simp[h2]
   by_cases h3:e.nm=e2.nm
   ·have h3b:(e.nm==e2.nm)=true:=by simp[h3]
    have HF:Hid (W=cZ e.kids e2.kids):=by show W=_;rw[HW.out];simp[br,h1,h2,h3]
    have c1:=Du IH e.kids e2.kids ao ao2 cap cap2 w0 (by omega) hlen hsh hlen2 hsh2 S0 T0;clear HW h1 h2 h3;go_wp2_with fail;refine c1.mono ?_;rintro x w1 ⟨rfl,b1⟩;have B1:=B0.trans (b1.mono (by rw[HB.out];exact B0.size));clear c1 p0 p1 p2 p3 pf q0 q1 q2 q3 qf;rw[<-HF.out];go_wp2;go_ret;exact⟨rfl,by rw[<-HB.out];exact B1⟩
   ·have h3b:(e.nm==e2.nm)=false:=by simpa using h3
    have FIN:Hid (W=false):=by show W=_;rw[HW.out];simp[br,h3]
    clear HW h1 h2 h3;go_wp2;go_ret;rw[FIN.out];exact⟨rfl,by rw[<-HB.out];exact B0⟩
  ·have h2b:(e.n==e2.n)=false:=by simpa using h2
   have FIN:Hid (W=false):=by show W=_;rw[HW.out];simp[br,h2]
   clear HW h1;go_wp2;go_ret;rw[FIN.out];exact⟨rfl,by rw[<-HB.out];exact B0⟩
 ·have h1b:(e.k==e2.k)=false:=by simpa using h1
  have FIN:Hid (W=false):=by show W=_;rw[HW.out];simp[br,h1]
  clear HW;go_wp2;go_ret;rw[FIN.out];exact⟨rfl,by rw[<-HB.out];exact B0⟩
theorem tV:∀ N,kM N -- 266
 | 0=>fun e e2 ao ao2 cap cap2 w h=>absurd h (Nat.not_lt_zero _)
 | N+1=>vC (tV N)
def Fs.nv:Fs->Prop
 | ⟨none⟩=>True
 | ⟨some ⟨k,n,_,_,ks,r⟩⟩=>(k=5->0<=n)/\ks.nv/\r.nv
def Ex.nv (e:Ex):Prop:=(e.k=5->0<=e.n)/\e.kids.nv
theorem Fs.app_nv:∀ {x y:Fs},(x.app y).nv->x.nv/\y.nv
 | ⟨none⟩,y,h=>⟨trivial,h⟩
 | ⟨some ⟨k,n,nm,a,ks,r⟩⟩,y,h=>⟨⟨h.1,h.2.1,(Fs.app_nv h.2.2).1⟩,(Fs.app_nv h.2.2).2⟩
theorem sv (cells:List Int):∀ (f:Fs) (pk:Int) (i ar wi:Nat) (s s':Rg) (kd:List Int),rgF cells f pk i ar wi s=some (s',kd)->f.nv
 | ⟨none⟩,pk,i,ar,wi,s,s',kd,h=>trivial
 | ⟨some ⟨k,n,nm,a,ks,r⟩⟩,pk,i,ar,wi,s,s',kd,h=>by
  have h0:rgF cells ⟨some ⟨k,n,nm,a,ks,r⟩⟩ pk i ar wi s=_:=eG cells ⟨k,n,nm,a,ks⟩ r pk i ar wi s;rw[h0] at h;cases hx:rgE cells ⟨k,n,nm,a,ks⟩ (aL pk i ar wi).1 (aL pk i ar wi).2 s with
  | none=>rw[hx] at h;cases h
  | some z =>
   obtain⟨s2,k2⟩:=z;rw[hx] at h;simp only at h;cases hr:rgF cells r pk (i+1) ar wi s2 with
   | none=>rw[hr] at h;cases h
   | some z =>
    obtain⟨s3,rest⟩:=z;have hd:=kO hx;obtain⟨-,s1,kd1,hk,-⟩:=dw hx;simp only at hd hk;refine⟨?_,sv cells ks k 0 _ _ _ _ _ hk,sv cells r pk (i+1) ar wi _ _ _ hr⟩;rintro rfl;simp[aD] at hd;omega
theorem xo {cells:List Int}{e:Ex}{ar wi:Nat}{s s':Rg}{k:Int}(h:rgE cells e ar wi s=some (s',k)):e.nv:=by
 have hd:=kO h;obtain⟨-,s1,kd1,hk,-⟩:=dw h;refine⟨?_,sv _ _ _ _ _ _ _ _ _ hk⟩;intro h5;rw[h5] at hd;simp[aD] at hd;omega
theorem ie (k n:Int)(nm:List UInt8)(a:Int)(ks r:Fs)(ar:Int):hgF (.cons k n nm a ks r) ar=max (hgE ⟨k,n,nm,a,ks⟩ ar) (hgF r ar):=rfl
def oT (N:Nat):Prop:=∀ (e:Ex) (ao:Option Addr) (cap:Nat) (ar:Int) (w:World),e.kids.size<N->e.kids.len<=1000000000->e.kids.short->e.nv->0<=ar->ar<=1000000000->SnA w e.kids ao ->
 Calls Tryz.prog 173 #[exN e ao cap,.int .i64 ar] w fun x w'=>x=.returned (.int .i64 (hgE e ar))/\Below w.heap.size w w'
theorem qR {N:Nat}(IH:oT N):oT (N+1):=by
 intro e ao cap ar w hN hlen hsh hnv h0 h1 S;obtain⟨W,hW⟩:∃W,W=hgE e ar:=⟨_,rfl⟩
 rw[<-hW];have HW:Hid (W=hgE e ar):=hW;clear hW;have B0:Below w.heap.size w (w.alloc (.cells #[.int .i64 e.k,.int .i64 e.n,stv e.nm,.slice ao e.kids.len cap] 34)):=(Below.refl _ w).alloc (Nat.le_refl _) _;have E0:(w.alloc (.cells #[.int .i64 e.k,.int .i64 e.n,stv e.nm,.slice ao e.kids.len cap] 34)).heap[w.heap.size]?=some (.cells #[.int .i64 e.k,.int .i64 e.n,stv e.nm,.slice ao e.kids.len cap] 34):=heap_alloc_new w _;rw[ah];go_enter Tryz.func173,Tryz.ntmps173;go_upto_region 1 with fail;generalize w.alloc (.cells #[.int .i64 e.k,.int .i64 e.n,stv e.nm,.slice ao e.kids.len cap] 34)=w0 at *;obtain⟨bx,hbx⟩:∃bx,bx=w.heap.size:=⟨_,rfl⟩
 rw[<-hbx] at E0 B0 ⊢;have HB:Hid (bx=w.heap.size):=hbx;clear hbx;obtain⟨c0,hc0⟩:∃c0:Int,c0=if e.k=5/\e.n<ar then e.n+1 else 0:=⟨_,rfl⟩
 have hcb:0<=c0/\c0<=ar:=by
  rw[hc0];split
  ·have:=hnv.1 (by omega)
   omega
  ·omega
 have HA0:Hid (max c0 (hgF e.kids ar)=W):=by show _=W;rw[HW.out,hc0];rfl
 clear HW;obtain⟨p0,p1,p2,p3,pf⟩:=aI E0;by_cases hv:e.k=5
 ·have hkb:(e.k==5)=true:=by simpa using hv
  by_cases hv2:e.n<ar
  ·have hv3:=hnv.1 hv;obtain rfl:c0=e.n+1:=by rw[hc0,if_pos ⟨hv,hv2⟩]
   clear hv hc0;go_wp2;go_loopw [5,6] (fun v1 v5 wr=>∃(done r:Fs) (c:Int),Hid (e.kids=done.app r)/\v1=.int .i64 c/\v5=.int .i64 (done.len:Nat)/\0<=c/\c<=ar/\Hid (max c (hgF r ar)=W)/\wr.heap[bx]?=some (.cells #[.int .i64 e.k,.int .i64 e.n,stv e.nm,.slice ao e.kids.len cap] 34)/\Below bx w wr) (fun _ v5 _=>e.kids.len-(intOf v5).toNat)
   case atStart=>exact⟨.nil,e.kids,e.n+1,rfl,rfl,by show _=Value.int .i64 ((0:Nat):Int);rfl,hcb.1,hcb.2,HA0,E0,B0⟩
   case round =>
    clear E0 B0 HA0 p0 p1 p2 p3 pf hcb;obtain⟨done,r,c,hk,rfl,rfl,hc0,hc1,HA,E1,B1⟩:=hrel;have hlk:e.kids.len=done.len+r.len:=by rw[hk.out,Fs.len_app]
    obtain⟨p0,p1,p2,p3,pf⟩:=aI E1;cases r using Fs.on with
    | nil =>
     have hlt:¬(done.len:Int)<(e.kids.len:Int):=by simp only[Fs.len] at hlk;omega
     have FIN:Hid (W=c):=by show W=c;rw[<-HA.out];simp only[hgF];omega
     clear HA hlk;go_wp2;go_ret;rw[FIN.out];exact⟨rfl,by rw[<-HB.out];exact B1⟩
    | cons kk kn km ka kks kr =>
     have hlt:(done.len:Int)<(e.kids.len:Int):=by simp only[Fs.len] at hlk;omega
     have hl3:done.len<e.kids.len:=by omega
     have hsz:e.kids.size=done.size+(kks.size+kr.size+1):=by rw[hk.out,Fs.size_app];rfl
     have hwk:(Fs.cons kk kn km ka kks kr).short:=Fs.app_short (x:=done) (by rw[<-hk.out];exact hsh);have hnk:(Fs.cons kk kn km ka kks kr).nv:=(Fs.app_nv (x:=done) (by rw[<-hk.out];exact hnv.2)).2;obtain⟨b,off,ak,ck,hao,lb1,-,x0,x1,x2,x3,SK⟩:=SlN.kidQ (by rw[<-hk.out];exact SnA.below S (by rw[<-HB.out];exact B1));subst hao;have hbd:=jM ar h0 ⟨kk,kn,km,ka,kks⟩;have hbp:=ik ar ⟨kk,kn,km,ka,kks⟩;have HA2:Hid (max (max c (hgE ⟨kk,kn,km,ka,kks⟩ ar)) (hgF kr ar)=W):=by show _=W;rw[<-HA.out,ie];generalize hgE ⟨kk,kn,km,ka,kks⟩ ar=z;generalize hgF kr ar=y;omega
     have hk2:Hid (e.kids=(done.snoc ⟨kk,kn,km,ka,kks⟩).app kr):=by show e.kids=_;rw[hk.out];unfold Fs.snoc;rw[Fs.app_assoc];rfl
     have hl2:(done.len:Int)+1=((done.snoc ⟨kk,kn,km,ka,kks⟩).len:Nat):=by rw[Fs.len_snoc];rfl
     have hcc:=IH ⟨kk,kn,km,ka,kks⟩ ak ck ar wr (by show kks.size<N;omega) hwk.2.1 hwk.2.2.1 ⟨hnk.1,hnk.2.1⟩ h0 h1 SK;rw[ah] at hcc;simp only at hcc;generalize hgE ⟨kk,kn,km,ka,kks⟩ ar=c2 at *;clear HA hlk hsz hwk SK hk hnk;go_wp2_with fail;refine hcc.mono ?_;rintro x w2 ⟨rfl,b2⟩;have B2:=B1.trans (b2.mono (by have:=lt_of_block E1;omega));have E2:=(b2.block bx (lt_of_block E1)).trans E1;clear hcc x0 x1 x2 x3 p0 p1 p2 p3 pf b2 E1 B1;go_wp2;go_roundw
     case rel=>exact⟨_,kr,max c c2,hk2,rfl,by rw[<-hl2],by omega,by omega,HA2,E2,B2⟩
     case measure=>simp[intOf];omega
  ·obtain rfl:c0=0:=by rw[hc0,if_neg (fun h=>hv2 h.2)]
   clear hv hc0;go_wp2;go_loopw [5,6] (fun v1 v5 wr=>∃(done r:Fs) (c:Int),Hid (e.kids=done.app r)/\v1=.int .i64 c/\v5=.int .i64 (done.len:Nat)/\0<=c/\c<=ar/\Hid (max c (hgF r ar)=W)/\wr.heap[bx]?=some (.cells #[.int .i64 e.k,.int .i64 e.n,stv e.nm,.slice ao e.kids.len cap] 34)/\Below bx w wr) (fun _ v5 _=>e.kids.len-(intOf v5).toNat)
   case atStart=>exact⟨.nil,e.kids,0,rfl,rfl,by show _=Value.int .i64 ((0:Nat):Int);rfl,hcb.1,hcb.2,HA0,E0,B0⟩
   case round =>
    clear E0 B0 HA0 p0 p1 p2 p3 pf hcb;obtain⟨done,r,c,hk,rfl,rfl,hc0,hc1,HA,E1,B1⟩:=hrel;have hlk:e.kids.len=done.len+r.len:=by rw[hk.out,Fs.len_app]
    obtain⟨p0,p1,p2,p3,pf⟩:=aI E1;cases r using Fs.on with
    | nil =>
     have hlt:¬(done.len:Int)<(e.kids.len:Int):=by simp only[Fs.len] at hlk;omega
     have FIN:Hid (W=c):=by show W=c;rw[<-HA.out];simp only[hgF];omega
     clear HA hlk;go_wp2;go_ret;rw[FIN.out];exact⟨rfl,by rw[<-HB.out];exact B1⟩
    | cons kk kn km ka kks kr =>
     have hlt:(done.len:Int)<(e.kids.len:Int):=by simp only[Fs.len] at hlk;omega
     have hl3:done.len<e.kids.len:=by omega
     have hsz:e.kids.size=done.size+(kks.size+kr.size+1):=by rw[hk.out,Fs.size_app];rfl
     have hwk:(Fs.cons kk kn km ka kks kr).short:=Fs.app_short (x:=done) (by rw[<-hk.out];exact hsh);have hnk:(Fs.cons kk kn km ka kks kr).nv:=(Fs.app_nv (x:=done) (by rw[<-hk.out];exact hnv.2)).2;obtain⟨b,off,ak,ck,hao,lb1,-,x0,x1,x2,x3,SK⟩:=SlN.kidQ (by rw[<-hk.out];exact SnA.below S (by rw[<-HB.out];exact B1));subst hao;have hbd:=jM ar h0 ⟨kk,kn,km,ka,kks⟩;have hbp:=ik ar ⟨kk,kn,km,ka,kks⟩;have HA2:Hid (max (max c (hgE ⟨kk,kn,km,ka,kks⟩ ar)) (hgF kr ar)=W):=by show _=W;rw[<-HA.out,ie];generalize hgE ⟨kk,kn,km,ka,kks⟩ ar=z;generalize hgF kr ar=y;omega
     have hk2:Hid (e.kids=(done.snoc ⟨kk,kn,km,ka,kks⟩).app kr):=by show e.kids=_;rw[hk.out];unfold Fs.snoc;rw[Fs.app_assoc];rfl
     have hl2:(done.len:Int)+1=((done.snoc ⟨kk,kn,km,ka,kks⟩).len:Nat):=by rw[Fs.len_snoc];rfl
     have hcc:=IH ⟨kk,kn,km,ka,kks⟩ ak ck ar wr (by show kks.size<N;omega) hwk.2.1 hwk.2.2.1 ⟨hnk.1,hnk.2.1⟩ h0 h1 SK;rw[ah] at hcc;simp only at hcc;generalize hgE ⟨kk,kn,km,ka,kks⟩ ar=c2 at *;clear HA hlk hsz hwk SK hk hnk;go_wp2_with fail;refine hcc.mono ?_;rintro x w2 ⟨rfl,b2⟩;have B2:=B1.trans (b2.mono (by have:=lt_of_block E1;omega));have E2:=(b2.block bx (lt_of_block E1)).trans E1;clear hcc x0 x1 x2 x3 p0 p1 p2 p3 pf b2 E1 B1;go_wp2;go_roundw
     case rel=>exact⟨_,kr,max c c2,hk2,rfl,by rw[<-hl2],by omega,by omega,HA2,E2,B2⟩
     case measure=>simp[intOf];omega
 ·have hkb:(e.k==5)=false:=by simpa using hv
  obtain rfl:c0=0:=by rw[hc0,if_neg (fun h=>hv h.1)]
  clear hv hc0;go_wp2;go_loopw [5,6] (fun v1 v5 wr=>∃(done r:Fs) (c:Int),Hid (e.kids=done.app r)/\v1=.int .i64 c/\v5=.int .i64 (done.len:Nat)/\0<=c/\c<=ar/\Hid (max c (hgF r ar)=W)/\wr.heap[bx]?=some (.cells #[.int .i64 e.k,.int .i64 e.n,stv e.nm,.slice ao e.kids.len cap] 34)/\Below bx w wr) (fun _ v5 _=>e.kids.len-(intOf v5).toNat)
  case atStart=>exact⟨.nil,e.kids,0,rfl,rfl,by show _=Value.int .i64 ((0:Nat):Int);rfl,hcb.1,hcb.2,HA0,E0,B0⟩
  case round =>
   clear E0 B0 HA0 p0 p1 p2 p3 pf hcb;obtain⟨done,r,c,hk,rfl,rfl,hc0,hc1,HA,E1,B1⟩:=hrel;have hlk:e.kids.len=done.len+r.len:=by rw[hk.out,Fs.len_app]
   obtain⟨p0,p1,p2,p3,pf⟩:=aI E1;cases r using Fs.on with
   | nil =>
    have hlt:¬(done.len:Int)<(e.kids.len:Int):=by simp only[Fs.len] at hlk;omega
    have FIN:Hid (W=c):=by show W=c;rw[<-HA.out];simp only[hgF];omega
    clear HA hlk;go_wp2;go_ret;rw[FIN.out];exact⟨rfl,by rw[<-HB.out];exact B1⟩
   | cons kk kn km ka kks kr =>
    have hlt:(done.len:Int)<(e.kids.len:Int):=by simp only[Fs.len] at hlk;omega
    have hl3:done.len<e.kids.len:=by omega
    have hsz:e.kids.size=done.size+(kks.size+kr.size+1):=by rw[hk.out,Fs.size_app];rfl
    have hwk:(Fs.cons kk kn km ka kks kr).short:=Fs.app_short (x:=done) (by rw[<-hk.out];exact hsh);have hnk:(Fs.cons kk kn km ka kks kr).nv:=(Fs.app_nv (x:=done) (by rw[<-hk.out];exact hnv.2)).2;obtain⟨b,off,ak,ck,hao,lb1,-,x0,x1,x2,x3,SK⟩:=SlN.kidQ (by rw[<-hk.out];exact SnA.below S (by rw[<-HB.out];exact B1));subst hao;have hbd:=jM ar h0 ⟨kk,kn,km,ka,kks⟩;have hbp:=ik ar ⟨kk,kn,km,ka,kks⟩;have HA2:Hid (max (max c (hgE ⟨kk,kn,km,ka,kks⟩ ar)) (hgF kr ar)=W):=by show _=W;rw[<-HA.out,ie];generalize hgE ⟨kk,kn,km,ka,kks⟩ ar=z;generalize hgF kr ar=y;omega
    have hk2:Hid (e.kids=(done.snoc ⟨kk,kn,km,ka,kks⟩).app kr):=by show e.kids=_;rw[hk.out];unfold Fs.snoc;rw[Fs.app_assoc];rfl
    have hl2:(done.len:Int)+1=((done.snoc ⟨kk,kn,km,ka,kks⟩).len:Nat):=by rw[Fs.len_snoc];rfl
    have hcc:=IH ⟨kk,kn,km,ka,kks⟩ ak ck ar wr (by show kks.size<N;omega) hwk.2.1 hwk.2.2.1 ⟨hnk.1,hnk.2.1⟩ h0 h1 SK;rw[ah] at hcc;simp only at hcc;generalize hgE ⟨kk,kn,km,ka,kks⟩ ar=c2 at *;clear HA hlk hsz hwk SK hk hnk;go_wp2_with fail;refine hcc.mono ?_;rintro x w2 ⟨rfl,b2⟩;have B2:=B1.trans (b2.mono (by have:=lt_of_block E1;omega));have E2:=(b2.block bx (lt_of_block E1)).trans E1;clear hcc x0 x1 x2 x3 p0 p1 p2 p3 pf b2 E1 B1;go_wp2;go_roundw
    case rel=>exact⟨_,kr,max c c2,hk2,rfl,by rw[<-hl2],by omega,by omega,HA2,E2,B2⟩
    case measure=>simp[intOf];omega
theorem pi:∀ N,oT N -- 173
 | 0=>fun e ao cap ar w h=>absurd h (Nat.not_lt_zero _)
 | N+1=>qR (pi N)
def nZ (N:Nat):Prop:=∀ (e:Ex) (ao:Option Addr) (cap:Nat) (ar:Int) (w:World),e.kids.size<N->e.kids.len<=1000000000->e.kids.short->e.nv->0<=ar->ar<=1000000000->SnA w e.kids ao ->
 Calls Tryz.prog 265 #[exN e ao cap,.int .i64 ar] w fun x w'=>x=.returned (.int .i64 (hgE e ar))/\Below w.heap.size w w'
theorem rQ {N:Nat}(IH:nZ N):nZ (N+1):=by
 intro e ao cap ar w hN hlen hsh hnv h0 h1 S;obtain⟨W,hW⟩:∃W,W=hgE e ar:=⟨_,rfl⟩
 rw[<-hW];have HW:Hid (W=hgE e ar):=hW;clear hW;have B0:Below w.heap.size w (w.alloc (.cells #[.int .i64 e.k,.int .i64 e.n,stv e.nm,.slice ao e.kids.len cap] 34)):=(Below.refl _ w).alloc (Nat.le_refl _) _;have E0:(w.alloc (.cells #[.int .i64 e.k,.int .i64 e.n,stv e.nm,.slice ao e.kids.len cap] 34)).heap[w.heap.size]?=some (.cells #[.int .i64 e.k,.int .i64 e.n,stv e.nm,.slice ao e.kids.len cap] 34):=heap_alloc_new w _;rw[ah];go_enter Tryz.func265,Tryz.ntmps265;go_upto_region 1 with fail;generalize w.alloc (.cells #[.int .i64 e.k,.int .i64 e.n,stv e.nm,.slice ao e.kids.len cap] 34)=w0 at *;obtain⟨bx,hbx⟩:∃bx,bx=w.heap.size:=⟨_,rfl⟩
 rw[<-hbx] at E0 B0 ⊢;have HB:Hid (bx=w.heap.size):=hbx;clear hbx;obtain⟨c0,hc0⟩:∃c0:Int,c0=if e.k=5/\e.n<ar then e.n+1 else 0:=⟨_,rfl⟩
 have hcb:0<=c0/\c0<=ar:=by
  rw[hc0];split
  ·have:=hnv.1 (by omega)
   omega
  ·omega
 have HA0:Hid (max c0 (hgF e.kids ar)=W):=by show _=W;rw[HW.out,hc0];rfl
 clear HW;obtain⟨p0,p1,p2,p3,pf⟩:=aI E0;by_cases hv:e.k=5
 ·have hkb:(e.k==5)=true:=by simpa using hv
  by_cases hv2:e.n<ar
  ·have hv3:=hnv.1 hv;obtain rfl:c0=e.n+1:=by rw[hc0,if_pos ⟨hv,hv2⟩]
   clear hv hc0;go_wp2;go_loopw [5,23] (fun v1 v5 wr=>∃(done r:Fs) (c:Int),Hid (e.kids=done.app r)/\v1=.int .i64 c/\v5=.int .i64 (done.len:Nat)/\0<=c/\c<=ar/\Hid (max c (hgF r ar)=W)/\wr.heap[bx]?=some (.cells #[.int .i64 e.k,.int .i64 e.n,stv e.nm,.slice ao e.kids.len cap] 34)/\Below bx w wr) (fun _ v5 _=>e.kids.len-(intOf v5).toNat)
   case atStart=>exact⟨.nil,e.kids,e.n+1,rfl,rfl,by show _=Value.int .i64 ((0:Nat):Int);rfl,hcb.1,hcb.2,HA0,E0,B0⟩
   case round =>
    clear E0 B0 HA0 p0 p1 p2 p3 pf hcb;obtain⟨done,r,c,hk,rfl,rfl,hc0,hc1,HA,E1,B1⟩:=hrel;have hlk:e.kids.len=done.len+r.len:=by rw[hk.out,Fs.len_app]
    obtain⟨p0,p1,p2,p3,pf⟩:=aI E1;cases r using Fs.on with
    | nil =>
     have hlt:¬(done.len:Int)<(e.kids.len:Int):=by simp only[Fs.len] at hlk;omega
     have FIN:Hid (W=c):=by show W=c;rw[<-HA.out];simp only[hgF];omega
     clear HA hlk;go_wp2;go_ret;rw[FIN.out];exact⟨rfl,by rw[<-HB.out];exact B1⟩
    | cons kk kn km ka kks kr =>
     have hlt:(done.len:Int)<(e.kids.len:Int):=by simp only[Fs.len] at hlk;omega
     have hl3:done.len<e.kids.len:=by omega
     have hsz:e.kids.size=done.size+(kks.size+kr.size+1):=by rw[hk.out,Fs.size_app];rfl
     have hwk:(Fs.cons kk kn km ka kks kr).short:=Fs.app_short (x:=done) (by rw[<-hk.out];exact hsh);have hnk:(Fs.cons kk kn km ka kks kr).nv:=(Fs.app_nv (x:=done) (by rw[<-hk.out];exact hnv.2)).2;obtain⟨b,off,ak,ck,hao,lb1,-,x0,x1,x2,x3,SK⟩:=SlN.kidQ (by rw[<-hk.out];exact SnA.below S (by rw[<-HB.out];exact B1));subst hao;have hbd:=jM ar h0 ⟨kk,kn,km,ka,kks⟩;have hbp:=ik ar ⟨kk,kn,km,ka,kks⟩;have HA2:Hid (max (max c (hgE ⟨kk,kn,km,ka,kks⟩ ar)) (hgF kr ar)=W):=by show _=W;rw[<-HA.out,ie];generalize hgE ⟨kk,kn,km,ka,kks⟩ ar=z;generalize hgF kr ar=y;omega
     have hk2:Hid (e.kids=(done.snoc ⟨kk,kn,km,ka,kks⟩).app kr):=by show e.kids=_;rw[hk.out];unfold Fs.snoc;rw[Fs.app_assoc];rfl
     have hl2:(done.len:Int)+1=((done.snoc ⟨kk,kn,km,ka,kks⟩).len:Nat):=by rw[Fs.len_snoc];rfl
     have hbk:=lt_of_block E1;have B3:Below wr.heap.size wr (wr.alloc (.cells #[.int .i64 kk,.int .i64 kn,stv km,.slice ak kks.len ck] 34)):=(Below.refl _ wr).alloc (Nat.le_refl _) _;have Z3:(wr.alloc (.cells #[.int .i64 kk,.int .i64 kn,stv km,.slice ak kks.len ck] 34)).heap[wr.heap.size]?=some (.cells #[.int .i64 kk,.int .i64 kn,stv km,.slice ak kks.len ck] 34):=heap_alloc_new wr _;have SK3:=SnA.below SK B3;clear HA hlk SK hk;go_upto_region 7 with fail;generalize wr.alloc (.cells #[.int .i64 kk,.int .i64 kn,stv km,.slice ak kks.len ck] 34)=w3 at *;obtain⟨zb,hzb⟩:∃zb,zb=wr.heap.size:=⟨_,rfl⟩
     rw[<-hzb] at Z3 ⊢;have HZB:Hid (zb=wr.heap.size):=hzb;have hcc:=IH ⟨kk,kn,km,ka,kks⟩ ak ck ar w3 (by show kks.size<N;omega) hwk.2.1 hwk.2.2.1 ⟨hnk.1,hnk.2.1⟩ h0 h1 SK3;rw[ah] at hcc;simp only at hcc;generalize hgE ⟨kk,kn,km,ka,kks⟩ ar=c2 at *;obtain⟨z0,z1,z2,z3,zf⟩:=aI Z3;have hs3:=lt_of_block Z3;have B13:Below bx w w3:=B1.trans (B3.mono (by omega));have E3:=(B3.block bx hbk).trans E1;clear hsz hwk hnk hzb SK3 x0 x1 x2 x3 p0 p1 p2 p3 pf E1 B1 B3;go_wp2_with fail;refine hcc.mono ?_;rintro x w2 ⟨rfl,b2⟩;have B2:=B13.trans (b2.mono (by have:=lt_of_block E3;omega));have E2:=(b2.block bx (lt_of_block E3)).trans E3;clear hcc z0 z1 z2 z3 zf b2 E3 B13 Z3;go_wp2;go_roundw
     case rel=>exact⟨_,kr,max c c2,hk2,rfl,by rw[<-hl2],by omega,by omega,HA2,E2,B2⟩
     case measure=>simp[intOf];omega
  ·obtain rfl:c0=0:=by rw[hc0,if_neg (fun h=>hv2 h.2)]
   clear hv hc0;go_wp2;go_loopw [5,23] (fun v1 v5 wr=>∃(done r:Fs) (c:Int),Hid (e.kids=done.app r)/\v1=.int .i64 c/\v5=.int .i64 (done.len:Nat)/\0<=c/\c<=ar/\Hid (max c (hgF r ar)=W)/\wr.heap[bx]?=some (.cells #[.int .i64 e.k,.int .i64 e.n,stv e.nm,.slice ao e.kids.len cap] 34)/\Below bx w wr) (fun _ v5 _=>e.kids.len-(intOf v5).toNat)
   case atStart=>exact⟨.nil,e.kids,0,rfl,rfl,by show _=Value.int .i64 ((0:Nat):Int);rfl,hcb.1,hcb.2,HA0,E0,B0⟩
   case round =>
    clear E0 B0 HA0 p0 p1 p2 p3 pf hcb;obtain⟨done,r,c,hk,rfl,rfl,hc0,hc1,HA,E1,B1⟩:=hrel;have hlk:e.kids.len=done.len+r.len:=by rw[hk.out,Fs.len_app]
    obtain⟨p0,p1,p2,p3,pf⟩:=aI E1;cases r using Fs.on with
    | nil =>
     have hlt:¬(done.len:Int)<(e.kids.len:Int):=by simp only[Fs.len] at hlk;omega
     have FIN:Hid (W=c):=by show W=c;rw[<-HA.out];simp only[hgF];omega
     clear HA hlk;go_wp2;go_ret;rw[FIN.out];exact⟨rfl,by rw[<-HB.out];exact B1⟩
    | cons kk kn km ka kks kr =>
     have hlt:(done.len:Int)<(e.kids.len:Int):=by simp only[Fs.len] at hlk;omega
     have hl3:done.len<e.kids.len:=by omega
     have hsz:e.kids.size=done.size+(kks.size+kr.size+1):=by rw[hk.out,Fs.size_app];rfl
     have hwk:(Fs.cons kk kn km ka kks kr).short:=Fs.app_short (x:=done) (by rw[<-hk.out];exact hsh);have hnk:(Fs.cons kk kn km ka kks kr).nv:=(Fs.app_nv (x:=done) (by rw[<-hk.out];exact hnv.2)).2;obtain⟨b,off,ak,ck,hao,lb1,-,x0,x1,x2,x3,SK⟩:=SlN.kidQ (by rw[<-hk.out];exact SnA.below S (by rw[<-HB.out];exact B1));subst hao;have hbd:=jM ar h0 ⟨kk,kn,km,ka,kks⟩;have hbp:=ik ar ⟨kk,kn,km,ka,kks⟩;have HA2:Hid (max (max c (hgE ⟨kk,kn,km,ka,kks⟩ ar)) (hgF kr ar)=W):=by show _=W;rw[<-HA.out,ie];generalize hgE ⟨kk,kn,km,ka,kks⟩ ar=z;generalize hgF kr ar=y;omega
     have hk2:Hid (e.kids=(done.snoc ⟨kk,kn,km,ka,kks⟩).app kr):=by show e.kids=_;rw[hk.out];unfold Fs.snoc;rw[Fs.app_assoc];rfl
     have hl2:(done.len:Int)+1=((done.snoc ⟨kk,kn,km,ka,kks⟩).len:Nat):=by rw[Fs.len_snoc];rfl
     have hbk:=lt_of_block E1;have B3:Below wr.heap.size wr (wr.alloc (.cells #[.int .i64 kk,.int .i64 kn,stv km,.slice ak kks.len ck] 34)):=(Below.refl _ wr).alloc (Nat.le_refl _) _;have Z3:(wr.alloc (.cells #[.int .i64 kk,.int .i64 kn,stv km,.slice ak kks.len ck] 34)).heap[wr.heap.size]?=some (.cells #[.int .i64 kk,.int .i64 kn,stv km,.slice ak kks.len ck] 34):=heap_alloc_new wr _;have SK3:=SnA.below SK B3;clear HA hlk SK hk;go_upto_region 7 with fail;generalize wr.alloc (.cells #[.int .i64 kk,.int .i64 kn,stv km,.slice ak kks.len ck] 34)=w3 at *;obtain⟨zb,hzb⟩:∃zb,zb=wr.heap.size:=⟨_,rfl⟩
     rw[<-hzb] at Z3 ⊢;have HZB:Hid (zb=wr.heap.size):=hzb;have hcc:=IH ⟨kk,kn,km,ka,kks⟩ ak ck ar w3 (by show kks.size<N;omega) hwk.2.1 hwk.2.2.1 ⟨hnk.1,hnk.2.1⟩ h0 h1 SK3;rw[ah] at hcc;simp only at hcc;generalize hgE ⟨kk,kn,km,ka,kks⟩ ar=c2 at *;obtain⟨z0,z1,z2,z3,zf⟩:=aI Z3;have hs3:=lt_of_block Z3;have B13:Below bx w w3:=B1.trans (B3.mono (by omega));have E3:=(B3.block bx hbk).trans E1;clear hsz hwk hnk hzb SK3 x0 x1 x2 x3 p0 p1 p2 p3 pf E1 B1 B3;go_wp2_with fail;refine hcc.mono ?_;rintro x w2 ⟨rfl,b2⟩;have B2:=B13.trans (b2.mono (by have:=lt_of_block E3;omega));have E2:=(b2.block bx (lt_of_block E3)).trans E3;clear hcc z0 z1 z2 z3 zf b2 E3 B13 Z3;go_wp2;go_roundw
     case rel=>exact⟨_,kr,max c c2,hk2,rfl,by rw[<-hl2],by omega,by omega,HA2,E2,B2⟩
     case measure=>simp[intOf];omega
 ·have hkb:(e.k==5)=false:=by simpa using hv
  obtain rfl:c0=0:=by rw[hc0,if_neg (fun h=>hv h.1)]
  clear hv hc0;go_wp2;go_loopw [5,23] (fun v1 v5 wr=>∃(done r:Fs) (c:Int),Hid (e.kids=done.app r)/\v1=.int .i64 c/\v5=.int .i64 (done.len:Nat)/\0<=c/\c<=ar/\Hid (max c (hgF r ar)=W)/\wr.heap[bx]?=some (.cells #[.int .i64 e.k,.int .i64 e.n,stv e.nm,.slice ao e.kids.len cap] 34)/\Below bx w wr) (fun _ v5 _=>e.kids.len-(intOf v5).toNat)
  case atStart=>exact⟨.nil,e.kids,0,rfl,rfl,by show _=Value.int .i64 ((0:Nat):Int);rfl,hcb.1,hcb.2,HA0,E0,B0⟩
  case round =>
   clear E0 B0 HA0 p0 p1 p2 p3 pf hcb;obtain⟨done,r,c,hk,rfl,rfl,hc0,hc1,HA,E1,B1⟩:=hrel;have hlk:e.kids.len=done.len+r.len:=by rw[hk.out,Fs.len_app]
   obtain⟨p0,p1,p2,p3,pf⟩:=aI E1;cases r using Fs.on with
   | nil =>
    have hlt:¬(done.len:Int)<(e.kids.len:Int):=by simp only[Fs.len] at hlk;omega
    have FIN:Hid (W=c):=by show W=c;rw[<-HA.out];simp only[hgF];omega
    clear HA hlk;go_wp2;go_ret;rw[FIN.out];exact⟨rfl,by rw[<-HB.out];exact B1⟩
   | cons kk kn km ka kks kr =>
    have hlt:(done.len:Int)<(e.kids.len:Int):=by simp only[Fs.len] at hlk;omega
    have hl3:done.len<e.kids.len:=by omega
    have hsz:e.kids.size=done.size+(kks.size+kr.size+1):=by rw[hk.out,Fs.size_app];rfl
    have hwk:(Fs.cons kk kn km ka kks kr).short:=Fs.app_short (x:=done) (by rw[<-hk.out];exact hsh);have hnk:(Fs.cons kk kn km ka kks kr).nv:=(Fs.app_nv (x:=done) (by rw[<-hk.out];exact hnv.2)).2;obtain⟨b,off,ak,ck,hao,lb1,-,x0,x1,x2,x3,SK⟩:=SlN.kidQ (by rw[<-hk.out];exact SnA.below S (by rw[<-HB.out];exact B1));subst hao;have hbd:=jM ar h0 ⟨kk,kn,km,ka,kks⟩;have hbp:=ik ar ⟨kk,kn,km,ka,kks⟩;have HA2:Hid (max (max c (hgE ⟨kk,kn,km,ka,kks⟩ ar)) (hgF kr ar)=W):=by show _=W;rw[<-HA.out,ie];generalize hgE ⟨kk,kn,km,ka,kks⟩ ar=z;generalize hgF kr ar=y;omega
    have hk2:Hid (e.kids=(done.snoc ⟨kk,kn,km,ka,kks⟩).app kr):=by show e.kids=_;rw[hk.out];unfold Fs.snoc;rw[Fs.app_assoc];rfl
    have hl2:(done.len:Int)+1=((done.snoc ⟨kk,kn,km,ka,kks⟩).len:Nat):=by rw[Fs.len_snoc];rfl
    have hbk:=lt_of_block E1;have B3:Below wr.heap.size wr (wr.alloc (.cells #[.int .i64 kk,.int .i64 kn,stv km,.slice ak kks.len ck] 34)):=(Below.refl _ wr).alloc (Nat.le_refl _) _;have Z3:(wr.alloc (.cells #[.int .i64 kk,.int .i64 kn,stv km,.slice ak kks.len ck] 34)).heap[wr.heap.size]?=some (.cells #[.int .i64 kk,.int .i64 kn,stv km,.slice ak kks.len ck] 34):=heap_alloc_new wr _;have SK3:=SnA.below SK B3;clear HA hlk SK hk;go_upto_region 7 with fail;generalize wr.alloc (.cells #[.int .i64 kk,.int .i64 kn,stv km,.slice ak kks.len ck] 34)=w3 at *;obtain⟨zb,hzb⟩:∃zb,zb=wr.heap.size:=⟨_,rfl⟩
    rw[<-hzb] at Z3 ⊢;have HZB:Hid (zb=wr.heap.size):=hzb;have hcc:=IH ⟨kk,kn,km,ka,kks⟩ ak ck ar w3 (by show kks.size<N;omega) hwk.2.1 hwk.2.2.1 ⟨hnk.1,hnk.2.1⟩ h0 h1 SK3;rw[ah] at hcc;simp only at hcc;generalize hgE ⟨kk,kn,km,ka,kks⟩ ar=c2 at *;obtain⟨z0,z1,z2,z3,zf⟩:=aI Z3;have hs3:=lt_of_block Z3;have B13:Below bx w w3:=B1.trans (B3.mono (by omega));have E3:=(B3.block bx hbk).trans E1;clear hsz hwk hnk hzb SK3 x0 x1 x2 x3 p0 p1 p2 p3 pf E1 B1 B3;go_wp2_with fail;refine hcc.mono ?_;rintro x w2 ⟨rfl,b2⟩;have B2:=B13.trans (b2.mono (by have:=lt_of_block E3;omega));have E2:=(b2.block bx (lt_of_block E3)).trans E3;clear hcc z0 z1 z2 z3 zf b2 E3 B13 Z3;go_wp2;go_roundw
    case rel=>exact⟨_,kr,max c c2,hk2,rfl,by rw[<-hl2],by omega,by omega,HA2,E2,B2⟩
    case measure=>simp[intOf];omega
theorem pd:∀ N,nZ N -- 265
 | 0=>fun e ao cap ar w h=>absurd h (Nat.not_lt_zero _)
 | N+1=>rQ (pd N)
structure cu (e:Ex):Prop where
 nm:e.nm.length<=maxLen
 len:e.kids.len<=1000000000
 sh:e.kids.short
def KT (w:World)(P:Nat->Prop)(kb nc:Nat)(t:Nat->Option Ex):Prop :=
 ∃arr:Array Value,w.heap[kb]?=some (.cells arr 32 (0,0))/\arr.size=nc /\
  ∀ i,i<nc->(t i=none/\arr[i]?=some (.slice none 0 0))\/∃x y g cap,t i=some x/\br x y=true/\arr[i]?=some (.slice (some ⟨g,0,none⟩) 1 cap)/\SlN w P (one y) (some ⟨g,0,none⟩)/\cu y
theorem KT.mono {w w':World}{P:Nat->Prop}{kb nc:Nat}{t:Nat->Option Ex}(h:KT w P kb nc t)(e:w'.heap[kb]?=w.heap[kb]?)(hb:∀ k,P k->k<w.heap.size->w'.heap[k]?=w.heap[k]?)(hs:w.heap.size<=w'.heap.size):KT w' P kb nc t:=by
 obtain⟨arr,h1,h2,h3⟩:=h;refine⟨arr,e.trans h1,h2,fun i hi=>?_⟩;rcases h3 i hi with h4|⟨x,y,g,cap,q1,q2,q3,q4,q5⟩
 ·exact .inl h4
 ·exact .inr ⟨x,y,g,cap,q1,q2,q3,q4.mono hb hs (fun _ h _=>h),q5⟩
def WD (w:World)(wb kb:Nat)(bv:Value)(nc:Nat):Dg->Prop
 | some s=>w.heap[wb]?=some (.cells #[bv,.int .i64 (s.1:Nat),.slice (some ⟨kb,0,none⟩) nc nc,.bool true] 104 (0,0))/\s.1<=4096/\KT w (Nf2 wb kb) kb nc s.2
 | none=>kb<w.heap.size/\∃p kv,w.heap[wb]?=some (.cells #[bv,.int .i64 p,kv,.bool false] 104 (0,0))
theorem WD.lt {w:World}{wb kb:Nat}{bv:Value}{nc:Nat}{st:Dg}(h:WD w wb kb bv nc st):wb<w.heap.size:=by
 cases st with
 | none=>obtain⟨-,p,kv,h⟩:=h;exact lt_of_block h
 | some s=>exact lt_of_block h.1
theorem WD.ltk {w:World}{wb kb:Nat}{bv:Value}{nc:Nat}{st:Dg}(h:WD w wb kb bv nc st):kb<w.heap.size:=by
 cases st with
 | none=>exact h.1
 | some s=>obtain⟨-,-,arr,h,-⟩:=h;exact lt_of_block h
theorem WD.below {w w':World}{wb kb:Nat}{bv:Value}{nc:Nat}{st:Dg}(h:WD w wb kb bv nc st)(b:Below w.heap.size w w'):WD w' wb kb bv nc st:=by
 have hl:=h.lt;cases st with
 | none=>obtain⟨hk,p,kv,h⟩:=h;exact⟨Nat.lt_of_lt_of_le hk b.size,p,kv,(b.block _ hl).trans h⟩
 | some s =>
  obtain⟨h1,h2,h3⟩:=h;have hk:kb<w.heap.size:=by obtain⟨arr,h,-⟩:=h3;exact lt_of_block h
  exact⟨(b.block _ hl).trans h1,h2,h3.mono (b.block _ hk) (fun i _ hl=>b.block i hl) b.size⟩
def aT (w:World)(wb kb:Nat)(bv:Value)(nc:Nat)(r:Option (Rg × Int))(x:Ending)(w':World):Prop :=
 (∃k',x=.returned (.int .i64 k')/\∀ s k,r=some (s,k)->k'=k)/\WD w' wb kb bv nc (r.map (·.1))/\Kp wb kb w w'
def i7 (N:Nat):Prop:=∀ (e:Ex) (ao:Option Addr) (cap wb kb:Nat) (bv:Value) (cells:List Int) (ar wi:Nat) (s:Rg) (w:World),e.kids.size<N->cu e->wi<=4->ar<=wi->wb≠kb->WD w wb kb bv cells.length (some s)->Inw w (Nf2 wb kb) bv cells->SlN w (Nf2 wb kb) e.kids ao ->
 Calls Tryz.prog 54 #[.pointer (some ⟨wb,0,none⟩),exN e ao cap,.int .i64 (ar:Nat),.int .i64 (wi:Nat)] w (aT w wb kb bv cells.length (cM cells e ar wi s))
def zX (r:Option (Rg × Int))(m:Int):Dg:=match r with|none=>none|some (s',k)=>if k=m then some s' else none
def fP (w:World)(wb kb:Nat)(bv:Value)(nc:Nat)(st:Dg)(x:Ending)(w':World):Prop:=x=.returned (.tuple #[])/\WD w' wb kb bv nc st/\Kp wb kb w w'
theorem gK {w:World}{b:Nat}{a0 a1 a2 a3:Value}{t:TypeId}(h:w.heap[b]?=some (.cells #[a0,a1,a2,a3] t (0,0)))(v:Value) :
  (w.setCell ⟨b,1,none⟩ v).heap[b]?=some (.cells #[a0,v,a2,a3] t (0,0))/\(w.setCell ⟨b,3,none⟩ v).heap[b]?=some (.cells #[a0,a1,a2,v] t (0,0)) :=
 ⟨(Blk.set (o:=fun _=>0) (i:=0) ⟨h,rfl⟩ 1 v).1,(Blk.set (o:=fun _=>0) (i:=0) ⟨h,rfl⟩ 3 v).1⟩
theorem p7 (e:Ex)(ao:Option Addr)(cap wb kb:Nat)(bv:Value)(nc:Nat)(ar wi:Nat)(w:World)(h:WD w wb kb bv nc none) :
  Calls Tryz.prog 54 #[.pointer (some ⟨wb,0,none⟩),exN e ao cap,.int .i64 (ar:Nat),.int .i64 (wi:Nat)] w (aT w wb kb bv nc none):=by
 have B0:Below w.heap.size w (w.alloc (.cells #[.int .i64 e.k,.int .i64 e.n,stv e.nm,.slice ao e.kids.len cap] 34)):=(Below.refl _ w).alloc (Nat.le_refl _) _;have E0:(w.alloc (.cells #[.int .i64 e.k,.int .i64 e.n,stv e.nm,.slice ao e.kids.len cap] 34)).heap[w.heap.size]?=some (.cells #[.int .i64 e.k,.int .i64 e.n,stv e.nm,.slice ao e.kids.len cap] 34):=heap_alloc_new w _;have W0:=h.below B0;clear h;rw[ah];go_enter Tryz.func54,Tryz.ntmps54;go_upto_region 1 with fail;generalize w.alloc (.cells #[.int .i64 e.k,.int .i64 e.n,stv e.nm,.slice ao e.kids.len cap] 34)=w0 at *;obtain⟨hk0,p,kv,W0⟩:=W0;obtain⟨q0,q1,q2,q3,qf⟩:=aI W0;have KK:Kp wb kb w w0:=Kp.ofBelow B0;clear E0 B0;have F1:=(gK W0 (.int .i64 (wrap64 (p+1)))).1;have K1:=KK.set ⟨wb,1,none⟩ (.int .i64 (wrap64 (p+1))) (.inr (.inl rfl));have hk1:kb<(w0.setCell ⟨wb,1,none⟩ (.int .i64 (wrap64 (p+1)))).heap.size:=by simpa using hk0
 clear KK W0;go_upto_region 2 with fail;generalize w0.setCell ⟨wb,1,none⟩ (.int .i64 (wrap64 (p+1)))=w1 at *;generalize wrap64 (p+1)=p1 at *;clear q0 q1 q2 q3 qf;obtain⟨q0,q1,q2,q3,qf⟩:=aI F1;have HZ:Hid (aT w wb kb bv nc none (.returned (.int .i64 0)) (w1.setCell ⟨wb,3,none⟩ (.bool false))):=⟨⟨0,rfl,fun s k h=>by cases h⟩,⟨by simpa using hk1,p1,kv,(gK F1 (.bool false)).2⟩,K1.set _ _ (.inr (.inl rfl))⟩
 clear F1 K1;go_wp2;exact bodyPost_ret (v:=.int .i64 0) (by simp[results,Tryz.results54,go_sem]) rfl HZ.out
theorem iL {N:Nat}(IH:i7 N)(e:Ex)(ao:Option Addr)(cap wb kb:Nat)(bv:Value)(cells:List Int)(ar wi:Nat)(m:Int)(st:Dg)(w:World)(hN:st≠none->e.kids.size<N)(hf:cu e)(hwi:wi<=4)(har:ar<=wi)(hne:wb≠kb)(hm:st≠none->m≠4)(h:WD w wb kb bv cells.length st)(hn:Inw w (Nf2 wb kb) bv cells)(S:SlN w (Nf2 wb kb) e.kids ao) :
  Calls Tryz.prog 106 #[.pointer (some ⟨wb,0,none⟩),exN e ao cap,.int .i64 (ar:Nat),.int .i64 (wi:Nat),.int .i64 m] w (fP w wb kb bv cells.length (bG cells st m e ar wi)):=by
 have B0:Below w.heap.size w (w.alloc (.cells #[.int .i64 e.k,.int .i64 e.n,stv e.nm,.slice ao e.kids.len cap] 34)):=(Below.refl _ w).alloc (Nat.le_refl _) _;have E0:(w.alloc (.cells #[.int .i64 e.k,.int .i64 e.n,stv e.nm,.slice ao e.kids.len cap] 34)).heap[w.heap.size]?=some (.cells #[.int .i64 e.k,.int .i64 e.n,stv e.nm,.slice ao e.kids.len cap] 34):=heap_alloc_new w _;have W0:=h.below B0;have S0:=S.belowP B0;have N0:=hn.below B0;clear h S hn;rw[ah];go_enter Tryz.func106,Tryz.ntmps106;go_upto_region 1 with fail;generalize w.alloc (.cells #[.int .i64 e.k,.int .i64 e.n,stv e.nm,.slice ao e.kids.len cap] 34)=w0 at *;have KK:Kp wb kb w w0:=Kp.ofBelow B0;obtain⟨p0,p1,p2,p3,pf⟩:=aI E0;clear E0 B0;have hc:∃r:Option (Rg × Int),Calls Tryz.prog 54 #[.pointer (some ⟨wb,0,none⟩),exN e ao cap,.int .i64 (ar:Nat),.int .i64 (wi:Nat)] w0 (aT w0 wb kb bv cells.length r)/\bG cells st m e ar wi=zX r m:=by
  cases st with
  | none=>exact⟨none,p7 e ao cap wb kb bv cells.length ar wi w0 W0,rfl⟩
  | some s=>exact⟨_,IH e ao cap wb kb bv cells ar wi s w0 (hN (by simp)) hf hwi har hne W0 N0 S0,wW (hm (by simp))⟩
 obtain⟨r,c1,hr⟩:=hc;have HR:Hid (bG cells st m e ar wi=zX r m):=hr;clear hr W0 S0 N0 hN IH;generalize bG cells st m e ar wi=Z at *;rw[ah] at c1;go_wp2_with fail;refine c1.mono ?_;rintro x w1 ⟨⟨k',rfl,hk'⟩,W1,K1⟩;have KW:=KK.trans K1;clear c1 p0 p1 p2 p3 pf KK K1;have BAD:∀ {b:Bool},WD w1 wb kb bv cells.length (r.map (·.1))->Hid (Z=none)->(∃a1 a2,w1.heap[wb]?=some (.cells #[bv,a1,a2,.bool b] 104 (0,0))/\∃p,a1=.int .i64 p)->Hid (fP w wb kb bv cells.length Z (.returned (.tuple #[])) (w1.setCell ⟨wb,3,none⟩ (.bool false))):=by
  intro b h1 hz h2;obtain⟨a1,a2,h2,p,rfl⟩:=h2;refine⟨rfl,?_,KW.set _ _ (.inr (.inl rfl))⟩;rw[hz.out];exact⟨by simpa using h1.ltk,p,a2,(gK h2 (.bool false)).2⟩
 cases hrr:r with
 | none =>
  rw[hrr] at W1;have W2:=W1;obtain⟨-,p,kv,W1⟩:=W1;have HZ0:Hid (Z=none):=by show Z=none;rw[HR.out,hrr];rfl
  have HB:=BAD (by rw[hrr];exact W2) HZ0 ⟨_,_,W1,p,rfl⟩;have HZ:Hid (fP w wb kb bv cells.length Z (.returned (.tuple #[])) w1):=⟨rfl,by rw[HZ0.out];exact W2,KW⟩
  obtain⟨q0,q1,q2,q3,qf⟩:=aI W1;clear BAD HR hrr hk' KW W2 W1 HZ0;by_cases hkm:k'=m
  ·have hne:(k' != m)=false:=by simpa using hkm
   clear hkm;go_wp2
   go_end0
   exact HZ.out
  ·have hne:(k' != m)=true:=by simpa using hkm
   clear hkm;go_wp2
   go_end0
   exact HB.out
 | some z =>
  obtain⟨s,k⟩:=z;obtain rfl:=hk' s k hrr;rw[hrr] at W1;have W2:WD w1 wb kb bv cells.length (some s):=W1;obtain⟨W1,hs,hkt⟩:=W2;obtain⟨q0,q1,q2,q3,qf⟩:=aI W1;by_cases hkm:k'=m
  ·have hne:(k' != m)=false:=by simpa using hkm
   have HZ:Hid (fP w wb kb bv cells.length Z (.returned (.tuple #[])) w1):=⟨rfl,by rw[HR.out,hrr];simp only[zX];rw[if_pos hkm];exact⟨W1,hs,hkt⟩,KW⟩
   clear BAD HR hrr hk' KW W1 hkt hkm;go_wp2
   go_end0
   exact HZ.out
  ·have hne:(k' != m)=true:=by simpa using hkm
   have HB:=BAD (by rw[hrr];exact⟨W1,hs,hkt⟩) (by show Z=none;rw[HR.out,hrr];simp only[zX];rw[if_neg hkm]) ⟨_,_,W1,_,rfl⟩;clear BAD HR hrr hk' KW W1 hkt hkm;go_wp2
   go_end0
   exact HB.out
end Go.Proofs.YtbjdkekhnajafaaGreatDoor
