import Derived.Test.YtejnhibajmncaaaDoorPrgD
set_option maxRecDepth 100000
set_option maxHeartbeats 8000000
namespace Go.Proofs.YtejnhibajmncaaaDoor
open Go.ChangeShapes Go.WideShapes Go.ChangeAt Go.RowKit
set_option linter.unusedVariables false
set_option linter.unusedSimpArgs false
def wgF:Fs->Int->Int
 | ⟨none⟩,l=>l
 | ⟨some ⟨_,_,_,_,ks,r⟩⟩,l=>if l<0 then l else wgF r (wgF ks (l-1))
theorem wgF_cons (k n:Int)(nm:List UInt8)(a:Int)(ks r:Fs)(l:Int):wgF (.cons k n nm a ks r) l=if l<0 then l else wgF r (wgF ks (l-1)):=rfl
theorem wgF_neg:∀ (f:Fs) (l:Int),l<0->wgF f l=l
 | ⟨none⟩,l,h=>rfl
 | ⟨some ⟨k,n,nm,a,ks,r⟩⟩,l,h=>by simp only[wgF,h,if_true]
theorem wgF_size:∀ (f:Fs) (l:Int),0<=wgF f l->wgF f l=l-(f.size:Nat)
 | ⟨none⟩,l,h=>by show l=l-((0:Nat):Int);omega
 | ⟨some ⟨k,n,nm,a,ks,r⟩⟩,l,h=>by
  have e:wgF ⟨some ⟨k,n,nm,a,ks,r⟩⟩ l=if l<0 then l else wgF r (wgF ks (l-1)):=rfl;rw[e] at h ⊢;split at h
  ·omega
  ·rename_i hl
   rw[if_neg hl];have h1:=wgF_size r _ h;by_cases h2:wgF ks (l-1)<0
   ·rw[wgF_neg r _ h2] at h;omega
   ·have h3:=wgF_size ks (l-1) (by omega);show _=l-((ks.size+r.size+1:Nat):Int);omega
theorem wgF_le:∀ (f:Fs) (l:Int),-1<=l->-1<=wgF f l/\wgF f l<=l
 | ⟨none⟩,l,h=>⟨h,Int.le_refl _⟩
 | ⟨some ⟨k,n,nm,a,ks,r⟩⟩,l,h=>by
  have e:wgF ⟨some ⟨k,n,nm,a,ks,r⟩⟩ l=if l<0 then l else wgF r (wgF ks (l-1)):=rfl;rw[e];split
  ·exact⟨h,Int.le_refl _⟩
  ·have h1:=wgF_le ks (l-1) (by omega);have h2:=wgF_le r _ h1.1;exact⟨h2.1,by omega⟩
def Fs.wide:Fs->Prop
 | ⟨none⟩=>True
 | ⟨some ⟨_,_,_,_,ks,r⟩⟩=>ks.len<=maxLen/\ks.wide/\r.wide
theorem Fs.app_wide:∀ {x y:Fs},(x.app y).wide->y.wide
 | ⟨none⟩,y,h=>h
 | ⟨some ⟨k,n,nm,a,ks,r⟩⟩,y,h=>Fs.app_wide (x:=r) h.2.2
def WeighNOk (N:Nat):Prop:=∀ (e:Ex) (ao:Option Addr) (cap:Nat) (l:Int) (w:World),e.kids.size<N->e.kids.len<=maxLen->e.kids.wide->0<=l->l<=1000000->SnA w e.kids ao ->
 Calls Tryd.prog 10 #[exN e ao cap,.int .i64 l] w fun x w'=>x=.returned (.int .i64 (wgF e.kids (l-1)))/\Below w.heap.size w w'
theorem weighn_step {N:Nat}(IH:WeighNOk N):WeighNOk (N+1):=by
 intro e ao cap l w hN hlen hwd hl0 hl1 S;obtain⟨W,hW⟩:∃W,W=wgF e.kids (l-1):=⟨_,rfl⟩
 rw[<-hW];have HW:Hid (W=wgF e.kids (l-1)):=hW;have hml:Hid (maxLen=9223372036854775807):=rfl;have hlm:e.kids.len<=9223372036854775807:=by have:=hml.out;omega
 clear hW;have B0:Below w.heap.size w (w.alloc (.cells #[.int .i64 e.k,.int .i64 e.n,stv e.nm,.slice ao e.kids.len cap] 24)):=(Below.refl _ w).alloc (Nat.le_refl _) _;have E0:(w.alloc (.cells #[.int .i64 e.k,.int .i64 e.n,stv e.nm,.slice ao e.kids.len cap] 24)).heap[w.heap.size]?=some (.cells #[.int .i64 e.k,.int .i64 e.n,stv e.nm,.slice ao e.kids.len cap] 24):=heap_alloc_new w _;rw[exN_out];go_enter Tryd.func10,Tryd.ntmps10;go_upto_region 1 with fail;generalize w.alloc (.cells #[.int .i64 e.k,.int .i64 e.n,stv e.nm,.slice ao e.kids.len cap] 24)=w0 at *;obtain⟨bx,hbx⟩:∃bx,bx=w.heap.size:=⟨_,rfl⟩
 rw[<-hbx] at E0 B0 ⊢;have HB:Hid (bx=w.heap.size):=hbx;clear hbx;go_wp2;go_loopw [1,5] (fun v1 v5 wr=>∃(done r:Fs) (c:Int),Hid (e.kids=done.app r)/\v1=.int .i64 c/\v5=.int .i64 (done.len:Nat)/\-1<=c/\c<=1000000/\Hid (wgF r c=W)/\wr.heap[bx]?=some (.cells #[.int .i64 e.k,.int .i64 e.n,stv e.nm,.slice ao e.kids.len cap] 24)/\Below bx w wr) (fun _ v5 _=>e.kids.len-(intOf v5).toNat)
 case atStart=>exact⟨.nil,e.kids,l-1,rfl,rfl,by show _=Value.int .i64 ((0:Nat):Int);rfl,by omega,by omega,HW.out.symm,E0,B0⟩
 case round =>
  clear E0 B0 HW;obtain⟨done,r,c,hk,rfl,rfl,hc0,hc1,HA,E1,B1⟩:=hrel;have hlk:e.kids.len=done.len+r.len:=by rw[hk.out,Fs.len_app]
  obtain⟨p0,p1,p2,p3,pf⟩:=box4 E1;cases r using Fs.on with
  | nil =>
   have hlt:¬(done.len:Int)<(e.kids.len:Int):=by simp only[Fs.len] at hlk;omega
   have FIN:Hid (W=c):=HA.out.symm;clear HA hlk;go_wp2;go_ret;rw[FIN.out];exact⟨rfl,by rw[<-HB.out];exact B1⟩
  | cons kk kn km ka kks kr =>
   have hlt:(done.len:Int)<(e.kids.len:Int):=by simp only[Fs.len] at hlk;omega
   have hl3:done.len<e.kids.len:=by omega
   by_cases hc:c<0
   ·have hcI:¬(0:Int)<=c:=by omega
    have FIN:Hid (W=c):=by show W=c;rw[<-HA.out];exact wgF_neg _ _ hc
    clear HA hlk;go_wp2;go_ret;rw[FIN.out];exact⟨rfl,by rw[<-HB.out];exact B1⟩
   ·have hcI:(0:Int)<=c:=by omega
    have hsz:e.kids.size=done.size+(kks.size+kr.size+1):=by rw[hk.out,Fs.size_app];rfl
    have hwk:(Fs.cons kk kn km ka kks kr).wide:=Fs.app_wide (x:=done) (by rw[<-hk.out];exact hwd);obtain⟨b,off,ak,ck,hao,lb1,-,x0,x1,x2,x3,SK⟩:=SlN.kidQ (by rw[<-hk.out];exact SnA.below S (by rw[<-HB.out];exact B1));subst hao;have hcc:=IH ⟨kk,kn,km,ka,kks⟩ ak ck c wr (by show kks.size<N;omega) hwk.1 hwk.2.1 hcI (by omega) SK;rw[exN_out] at hcc;simp only at hcc;have hbd:=wgF_le kks (c-1) (by omega);have HA2:Hid (wgF kr (wgF kks (c-1))=W):=by show _=W;rw[<-HA.out,wgF_cons,if_neg hc]
    have hk2:Hid (e.kids=(done.snoc ⟨kk,kn,km,ka,kks⟩).app kr):=by show e.kids=_;rw[hk.out];unfold Fs.snoc;rw[Fs.app_assoc];rfl
    have hl2:(done.len:Int)+1=((done.snoc ⟨kk,kn,km,ka,kks⟩).len:Nat):=by rw[Fs.len_snoc];rfl
    generalize wgF kks (c-1)=c2 at *;clear HA hlk hsz hwk SK hk;go_wp2_with fail;refine hcc.mono ?_;rintro x w2 ⟨rfl,b2⟩;have B2:=B1.trans (b2.mono (by have:=lt_of_block E1;omega));have E2:=(b2.block bx (lt_of_block E1)).trans E1;clear hcc x0 x1 x2 x3 p0 p1 p2 p3 pf b2 E1 B1;go_wp2;go_roundw
    case rel=>exact⟨_,kr,c2,hk2,rfl,by rw[<-hl2],hbd.1,by omega,HA2,E2,B2⟩
    case measure=>simp[intOf];omega
theorem weighn_ok:∀ N,WeighNOk N -- 10
 | 0=>fun e ao cap l w h=>absurd h (Nat.not_lt_zero _)
 | N+1=>weighn_step (weighn_ok N)
def SameNodeOk (N:Nat):Prop:=∀ (e e2:Ex) (ao ao2:Option Addr) (cap cap2:Nat) (w:World),e.kids.size<N->e.kids.len<=1000000000->e.kids.short->e2.kids.len<=1000000000->e2.kids.short->SnA w e.kids ao->SnA w e2.kids ao2 ->
 Calls Tryd.prog 70 #[exN e ao cap,exN e2 ao2 cap2] w fun x w'=>x=.returned (.bool (sameE e e2))/\Below w.heap.size w w'
theorem samenode_step {N:Nat}(IH:SameNodeOk N):SameNodeOk (N+1):=by
 intro e e2 ao ao2 cap cap2 w hN hlen hsh hlen2 hsh2 S S2;obtain⟨W,hW⟩:∃W,W=sameE e e2:=⟨_,rfl⟩
 rw[<-hW];have HW:Hid (W=sameE e e2):=hW;clear hW;have B0:Below w.heap.size w ((w.alloc (.cells #[.int .i64 e.k,.int .i64 e.n,stv e.nm,.slice ao e.kids.len cap] 24)).alloc (.cells #[.int .i64 e2.k,.int .i64 e2.n,stv e2.nm,.slice ao2 e2.kids.len cap2] 24)):=((Below.refl _ w).alloc (Nat.le_refl _) _).alloc (by simp) _;have E0:((w.alloc (.cells #[.int .i64 e.k,.int .i64 e.n,stv e.nm,.slice ao e.kids.len cap] 24)).alloc (.cells #[.int .i64 e2.k,.int .i64 e2.n,stv e2.nm,.slice ao2 e2.kids.len cap2] 24)).heap[w.heap.size]?=some (.cells #[.int .i64 e.k,.int .i64 e.n,stv e.nm,.slice ao e.kids.len cap] 24):=(Below.heap_alloc _ _ _ (by simp)).trans (heap_alloc_new w _);have Y0:((w.alloc (.cells #[.int .i64 e.k,.int .i64 e.n,stv e.nm,.slice ao e.kids.len cap] 24)).alloc (.cells #[.int .i64 e2.k,.int .i64 e2.n,stv e2.nm,.slice ao2 e2.kids.len cap2] 24)).heap[w.heap.size+1]?=some (.cells #[.int .i64 e2.k,.int .i64 e2.n,stv e2.nm,.slice ao2 e2.kids.len cap2] 24):=by
  have:=heap_alloc_new (w.alloc (.cells #[.int .i64 e.k,.int .i64 e.n,stv e.nm,.slice ao e.kids.len cap] 24)) (.cells #[.int .i64 e2.k,.int .i64 e2.n,stv e2.nm,.slice ao2 e2.kids.len cap2] 24)
  simpa using this
 rw[exN_out,exN_out];go_enter Tryd.func70,Tryd.ntmps70;go_upto_region 1 with fail;generalize (w.alloc (.cells #[.int .i64 e.k,.int .i64 e.n,stv e.nm,.slice ao e.kids.len cap] 24)).alloc (.cells #[.int .i64 e2.k,.int .i64 e2.n,stv e2.nm,.slice ao2 e2.kids.len cap2] 24)=w0 at *;obtain⟨bx,hbx⟩:∃bx,bx=w.heap.size:=⟨_,rfl⟩
 rw[<-hbx] at E0 Y0 B0 ⊢;have HB:Hid (bx=w.heap.size):=hbx;clear hbx;obtain⟨p0,p1,p2,p3,pf⟩:=box4 E0;obtain⟨q0,q1,q2,q3,qf⟩:=box4 Y0;by_cases h1:e.k=e2.k
 ·by_cases h2:e.n=e2.n
  ·by_cases h3:e.nm=e2.nm
   ·by_cases h4:e.kids.len=e2.kids.len
    ·have h1b:(e.k != e2.k)=false:=by simp[h1]
     have h2b:(e.n != e2.n)=false:=by simp[h2]
     have h3b:(e.nm==e2.nm)=true:=by simp[h3]
     have h4b:((e.kids.len:Int) != (e2.kids.len:Int))=false:=by rw[h4];simp
     have h1c:(e.k==e2.k)=true:=by simp[h1]
     have h2c:(e.n==e2.n)=true:=by simp[h2]
     have h4c:((e.kids.len:Int)==(e2.kids.len:Int))=true:=by rw[h4];simp
     have HF:Hid (W=sameF e.kids e2.kids):=by show W=_;rw[HW.out];simp[sameE,h1,h2,h3]
     have H4:Hid (e.kids.len=e2.kids.len):=h4;clear HW h1 h2 h3 h4;go_wp2;go_loopw [5] (fun v wr=>∃(done r d2 r2:Fs),Hid (e.kids=done.app r)/\Hid (e2.kids=d2.app r2)/\Hid (d2.len=done.len)/\v=.int .i64 (done.len:Nat)/\Hid (sameF r r2=W)/\wr.heap[bx]?=some (.cells #[.int .i64 e.k,.int .i64 e.n,stv e.nm,.slice ao e.kids.len cap] 24)/\wr.heap[bx+1]?=some (.cells #[.int .i64 e2.k,.int .i64 e2.n,stv e2.nm,.slice ao2 e2.kids.len cap2] 24)/\Below bx w wr) (fun v _=>e.kids.len-(intOf v).toNat)
     case atStart=>exact⟨.nil,e.kids,.nil,e2.kids,rfl,rfl,rfl,by show _=Value.int .i64 ((0:Nat):Int);rfl,HF.out.symm,E0,Y0,B0⟩
     case round =>
      clear E0 Y0 B0 p0 p1 p2 p3 pf q0 q1 q2 q3 qf HF h1b h2b h3b h4b h1c h2c h4c;obtain⟨done,r,d2,r2,hk,hk2,hd,rfl,HA,E1,Y1,B1⟩:=hrel;have hlf:e.kids.len=done.len+r.len:=by rw[hk.out,Fs.len_app]
      have hlg:e2.kids.len=d2.len+r2.len:=by rw[hk2.out,Fs.len_app]
      have HRR:Hid (r.len=r2.len):=by show _=_;have:=H4.out;have:=hd.out;omega
      clear hlg;obtain⟨p0,p1,p2,p3,pf⟩:=box4 E1;obtain⟨q0,q1,q2,q3,qf⟩:=box4 Y1;cases r using Fs.on with
      | nil =>
       have hl0:¬(done.len:Int)<(e.kids.len:Int):=by simp only[Fs.len] at hlf;omega
       have FIN:Hid (W=true):=by
        show W=true;rw[<-HA.out];cases r2 using Fs.on with
        | nil=>rfl
        | cons k n nm a ks r=>have:=HRR.out;simp only[Fs.len] at this;omega
       clear HA hlf HRR;go_wp2;go_ret;rw[FIN.out];exact⟨rfl,by rw[<-HB.out];exact B1⟩
      | cons kk kn km ka kks kr =>
       cases r2 using Fs.on with
       | nil=>have:=HRR.out;simp only[Fs.len] at this;omega
       | cons jk jn jm ja jks jr =>
       have hl0:(done.len:Int)<(e.kids.len:Int):=by simp only[Fs.len] at hlf;omega
       have hl1:done.len<e.kids.len:=by omega
       have hl2:done.len<e2.kids.len:=by have:=H4.out;omega
       have hl3:(done.len:Int)<(e2.kids.len:Int):=by omega
       have hsz:e.kids.size=done.size+(kks.size+kr.size+1):=by rw[hk.out,Fs.size_app];rfl
       have hsk:(Fs.cons kk kn km ka kks kr).short:=Fs.app_short (by rw[<-hk.out];exact hsh);have hsj:(Fs.cons jk jn jm ja jks jr).short:=Fs.app_short (by rw[<-hk2.out];exact hsh2);obtain⟨b,off,ak,ck,hao,lb1,-,x0,x1,x2,x3,SK⟩:=SlN.kidQ (by rw[<-hk.out];exact SnA.below S (by rw[<-HB.out];exact B1));obtain⟨b',off',aj,cj,hao',lb2,-,y0,y1,y2,y3,TK⟩:=SlN.kidQ (by rw[<-hk2.out];exact SnA.below S2 (by rw[<-HB.out];exact B1));subst hao hao';rw[hd.out] at y0 y1 y2 y3;have hc:=IH ⟨kk,kn,km,ka,kks⟩ ⟨jk,jn,jm,ja,jks⟩ ak aj ck cj wr.drew (by show kks.size<N;omega) hsk.2.1 hsk.2.2.1 hsj.2.1 hsj.2.2.1 (SnA.below SK (Below.refl _ wr).drew) (SnA.below TK (Below.refl _ wr).drew);rw[exN_out,exN_out] at hc;simp only at hc;have HA2:Hid ((sameE ⟨kk,kn,km,ka,kks⟩ ⟨jk,jn,jm,ja,jks⟩&&sameF kr jr)=W):=HA;have hf2:Hid (e.kids=(done.snoc ⟨kk,kn,km,ka,kks⟩).app kr):=by show e.kids=_;rw[hk.out];unfold Fs.snoc;rw[Fs.app_assoc];rfl
       have hg2:Hid (e2.kids=(d2.snoc ⟨jk,jn,jm,ja,jks⟩).app jr):=by show e2.kids=_;rw[hk2.out];unfold Fs.snoc;rw[Fs.app_assoc];rfl
       have hd2:Hid ((d2.snoc ⟨jk,jn,jm,ja,jks⟩).len=(done.snoc ⟨kk,kn,km,ka,kks⟩).len):=by show _=_;rw[Fs.len_snoc,Fs.len_snoc,hd.out]
       have hl4:(done.len:Int)+1=((done.snoc ⟨kk,kn,km,ka,kks⟩).len:Nat):=by rw[Fs.len_snoc];rfl
       generalize sameE ⟨kk,kn,km,ka,kks⟩ ⟨jk,jn,jm,ja,jks⟩=cc at *;clear hlf hsz hsk hsj SK TK HA hk hk2 hd;go_wp2;have k0:wr.cell? ⟨bx,3,none⟩=some (.slice (some ⟨b,off,none⟩) e.kids.len cap)/\wr.cell? ⟨bx+1,3,none⟩=some (.slice (some ⟨b',off',none⟩) e2.kids.len cap2)/\wr.cell? ⟨b,off+done.len*4,none⟩=some (.int .i64 kk)/\wr.cell? ⟨b,off+done.len*4+1,none⟩=some (.int .i64 kn)/\wr.cell? ⟨b,off+done.len*4+2,none⟩=some (stv km)/\wr.cell? ⟨b,off+done.len*4+3,none⟩=some (.slice ak kks.len ck)/\wr.cell? ⟨b',off'+done.len*4,none⟩=some (.int .i64 jk)/\wr.cell? ⟨b',off'+done.len*4+1,none⟩=some (.int .i64 jn)/\wr.cell? ⟨b',off'+done.len*4+2,none⟩=some (stv jm)/\wr.cell? ⟨b',off'+done.len*4+3,none⟩=some (.slice aj jks.len cj):=⟨p3,q3,x0,x1,x2,x3,y0,y1,y2,y3⟩
       have k1:wr.drew.cell? ⟨bx,3,none⟩=some (.slice (some ⟨b,off,none⟩) e.kids.len cap)/\wr.drew.cell? ⟨bx+1,3,none⟩=some (.slice (some ⟨b',off',none⟩) e2.kids.len cap2)/\wr.drew.cell? ⟨b,off+done.len*4,none⟩=some (.int .i64 kk)/\wr.drew.cell? ⟨b,off+done.len*4+1,none⟩=some (.int .i64 kn)/\wr.drew.cell? ⟨b,off+done.len*4+2,none⟩=some (stv km)/\wr.drew.cell? ⟨b,off+done.len*4+3,none⟩=some (.slice ak kks.len ck)/\wr.drew.cell? ⟨b',off'+done.len*4,none⟩=some (.int .i64 jk)/\wr.drew.cell? ⟨b',off'+done.len*4+1,none⟩=some (.int .i64 jn)/\wr.drew.cell? ⟨b',off'+done.len*4+2,none⟩=some (stv jm)/\wr.drew.cell? ⟨b',off'+done.len*4+3,none⟩=some (.slice aj jks.len cj):=k0;have lb:bx+1<wr.drew.heap.size:=lt_of_block Y1;go_region_held (fun wx=>wx.cell? ⟨bx,3,none⟩=some (.slice (some ⟨b,off,none⟩) e.kids.len cap)/\wx.cell? ⟨bx+1,3,none⟩=some (.slice (some ⟨b',off',none⟩) e2.kids.len cap2)/\wx.cell? ⟨b,off+done.len*4,none⟩=some (.int .i64 kk)/\wx.cell? ⟨b,off+done.len*4+1,none⟩=some (.int .i64 kn)/\wx.cell? ⟨b,off+done.len*4+2,none⟩=some (stv km)/\wx.cell? ⟨b,off+done.len*4+3,none⟩=some (.slice ak kks.len ck)/\wx.cell? ⟨b',off'+done.len*4,none⟩=some (.int .i64 jk)/\wx.cell? ⟨b',off'+done.len*4+1,none⟩=some (.int .i64 jn)/\wx.cell? ⟨b',off'+done.len*4+2,none⟩=some (stv jm)/\wx.cell? ⟨b',off'+done.len*4+3,none⟩=some (.slice aj jks.len cj)) (first|(with_reducible exact k2)|(with_reducible exact k1)|(with_reducible exact k0)) ((go_at_call 70;refine hc.mono ?_;rintro x w2 ⟨rfl,b2⟩;have k2:w2.cell? ⟨bx,3,none⟩=some (.slice (some ⟨b,off,none⟩) e.kids.len cap)/\w2.cell? ⟨bx+1,3,none⟩=some (.slice (some ⟨b',off',none⟩) e2.kids.len cap2)/\w2.cell? ⟨b,off+done.len*4,none⟩=some (.int .i64 kk)/\w2.cell? ⟨b,off+done.len*4+1,none⟩=some (.int .i64 kn)/\w2.cell? ⟨b,off+done.len*4+2,none⟩=some (stv km)/\w2.cell? ⟨b,off+done.len*4+3,none⟩=some (.slice ak kks.len ck)/\w2.cell? ⟨b',off'+done.len*4,none⟩=some (.int .i64 jk)/\w2.cell? ⟨b',off'+done.len*4+1,none⟩=some (.int .i64 jn)/\w2.cell? ⟨b',off'+done.len*4+2,none⟩=some (stv jm)/\w2.cell? ⟨b',off'+done.len*4+3,none⟩=some (.slice aj jks.len cj):=⟨(b2.cell (p:=⟨bx,3,none⟩) (Nat.lt_of_succ_lt lb)).trans p3,(b2.cell (p:=⟨bx+1,3,none⟩) lb).trans q3,(b2.cell (p:=⟨b,off+done.len*4,none⟩) lb1).trans x0,(b2.cell (p:=⟨b,off+done.len*4+1,none⟩) lb1).trans x1,(b2.cell (p:=⟨b,off+done.len*4+2,none⟩) lb1).trans x2,(b2.cell (p:=⟨b,off+done.len*4+3,none⟩) lb1).trans x3,(b2.cell (p:=⟨b',off'+done.len*4,none⟩) lb2).trans y0,(b2.cell (p:=⟨b',off'+done.len*4+1,none⟩) lb2).trans y1,(b2.cell (p:=⟨b',off'+done.len*4+2,none⟩) lb2).trans y2,(b2.cell (p:=⟨b',off'+done.len*4+3,none⟩) lb2).trans y3⟩));have B2:Below bx w w2:=(B1.drew).trans (b2.mono (by have:=HB.out;have:=B1.size;show bx<=wr.heap.size;omega));have E2:=(b2.block bx (Nat.lt_of_succ_lt lb)).trans E1;have Y2:=(b2.block (bx+1) lb).trans Y1;clear k0 k1 k2 p0 p1 p2 p3 pf q0 q1 q2 q3 qf x0 x1 x2 x3 y0 y1 y2 y3 hc b2 E1 Y1 B1;cases cc with
       | false =>
        have FIN:Hid (W=false):=by show W=_;rw[<-HA2.out];rfl
        clear HA2;go_wp2;go_ret;rw[FIN.out];exact⟨rfl,by rw[<-HB.out];exact B2⟩
       | true =>
        have HA3:Hid (sameF kr jr=W):=by show _=W;rw[<-HA2.out];rfl
        clear HA2;go_wp2;go_roundw
        case rel=>exact⟨_,kr,_,jr,hf2,hg2,hd2,by rw[<-hl4],HA3,E2,Y2,B2⟩
        case measure=>simp[intOf];omega
    ·have h1b:(e.k != e2.k)=false:=by simp[h1]
     have h2b:(e.n != e2.n)=false:=by simp[h2]
     have h3b:(e.nm==e2.nm)=true:=by simp[h3]
     have h1c:(e.k==e2.k)=true:=by simp[h1]
     have h2c:(e.n==e2.n)=true:=by simp[h2]
     have h4b:((e.kids.len:Int) != (e2.kids.len:Int))=true:=by simp;omega
     have h4c:((e.kids.len:Int)==(e2.kids.len:Int))=false:=by simp;omega
     have FIN:Hid (W=false):=by show W=_;rw[HW.out];simp[sameE,sameF_len _ _ h4]
     clear HW h1 h2 h3 h4;go_wp2;go_ret;rw[FIN.out];exact⟨rfl,by rw[<-HB.out];exact B0⟩
   ·have h1b:(e.k != e2.k)=false:=by simp[h1]
    have h2b:(e.n != e2.n)=false:=by simp[h2]
    have h1c:(e.k==e2.k)=true:=by simp[h1]
    have h2c:(e.n==e2.n)=true:=by simp[h2]
    have h3b:(e.nm==e2.nm)=false:=by simpa using h3
    have FIN:Hid (W=false):=by show W=_;rw[HW.out];simp[sameE,h3]
    clear HW h1 h2 h3;go_wp2;go_ret;rw[FIN.out];exact⟨rfl,by rw[<-HB.out];exact B0⟩
  ·have h1b:(e.k != e2.k)=false:=by simp[h1]
   have h1c:(e.k==e2.k)=true:=by simp[h1]
   have h2b:(e.n != e2.n)=true:=by simpa using h2
   have h2c:(e.n==e2.n)=false:=by simpa using h2
   have FIN:Hid (W=false):=by show W=_;rw[HW.out];simp[sameE,h2]
   clear HW h1 h2;go_wp2;go_ret;rw[FIN.out];exact⟨rfl,by rw[<-HB.out];exact B0⟩
 ·have h1b:(e.k != e2.k)=true:=by simpa using h1
  have h1c:(e.k==e2.k)=false:=by simpa using h1
  have FIN:Hid (W=false):=by show W=_;rw[HW.out];simp[sameE,h1]
  clear HW h1;go_wp2;go_ret;rw[FIN.out];exact⟨rfl,by rw[<-HB.out];exact B0⟩
theorem samenode_ok:∀ N,SameNodeOk N
 | 0=>fun e e2 ao ao2 cap cap2 w h=>absurd h (Nat.not_lt_zero _)
 | N+1=>samenode_step (samenode_ok N)
theorem sameE_self (a:Ex):sameE a a=true:=by simp[sameE,sameF_self]
def Fs.nv:Fs->Prop
 | ⟨none⟩=>True
 | ⟨some ⟨k,n,_,_,ks,r⟩⟩=>(k=5->0<=n)/\ks.nv/\r.nv
def Ex.nv (e:Ex):Prop:=(e.k=5->0<=e.n)/\e.kids.nv
theorem Fs.app_nv:∀ {x y:Fs},(x.app y).nv->x.nv/\y.nv
 | ⟨none⟩,y,h=>⟨trivial,h⟩
 | ⟨some ⟨k,n,nm,a,ks,r⟩⟩,y,h=>⟨⟨h.1,h.2.1,(Fs.app_nv h.2.2).1⟩,(Fs.app_nv h.2.2).2⟩
theorem rgF_nv (cells:List Int):∀ (f:Fs) (pk:Int) (i ar wi:Nat) (s s':Rg) (kd:List Int),rgF cells f pk i ar wi s=some (s',kd)->f.nv
 | ⟨none⟩,pk,i,ar,wi,s,s',kd,h=>trivial
 | ⟨some ⟨k,n,nm,a,ks,r⟩⟩,pk,i,ar,wi,s,s',kd,h=>by
  have h0:rgF cells ⟨some ⟨k,n,nm,a,ks,r⟩⟩ pk i ar wi s=_:=rg_ex cells ⟨k,n,nm,a,ks⟩ r pk i ar wi s;rw[h0] at h;cases hx:rgE cells ⟨k,n,nm,a,ks⟩ (spotP pk i ar wi).1 (spotP pk i ar wi).2 s with
  | none=>rw[hx] at h;cases h
  | some z =>
   obtain⟨s2,k2⟩:=z;rw[hx] at h;simp only at h;cases hr:rgF cells r pk (i+1) ar wi s2 with
   | none=>rw[hr] at h;cases h
   | some z =>
    obtain⟨s3,rest⟩:=z;have hd:=docF_of hx;obtain⟨-,s1,kd1,hk,-⟩:=rgE_inv hx;simp only at hd hk;refine⟨?_,rgF_nv cells ks k 0 _ _ _ _ _ hk,rgF_nv cells r pk (i+1) ar wi _ _ _ hr⟩;rintro rfl;simp[docF] at hd;omega
theorem rgE_nv {cells:List Int}{e:Ex}{ar wi:Nat}{s s':Rg}{k:Int}(h:rgE cells e ar wi s=some (s',k)):e.nv:=by
 have hd:=docF_of h;obtain⟨-,s1,kd1,hk,-⟩:=rgE_inv h;refine⟨?_,rgF_nv _ _ _ _ _ _ _ _ _ hk⟩;intro h5;rw[h5] at hd;simp[docF] at hd;omega
theorem hg_cons (k n:Int)(nm:List UInt8)(a:Int)(ks r:Fs)(ar:Int):hgF (.cons k n nm a ks r) ar=max (hgE ⟨k,n,nm,a,ks⟩ ar) (hgF r ar):=rfl
def HangDOk (N:Nat):Prop:=∀ (e:Ex) (ao:Option Addr) (cap:Nat) (ar:Int) (w:World),e.kids.size<N->e.kids.len<=1000000000->e.kids.short->e.nv->0<=ar->ar<=1000000000->SnA w e.kids ao ->
 Calls Tryd.prog 69 #[exN e ao cap,.int .i64 ar] w fun x w'=>x=.returned (.int .i64 (hgE e ar))/\Below w.heap.size w w'
theorem hangd_step {N:Nat}(IH:HangDOk N):HangDOk (N+1):=by
 intro e ao cap ar w hN hlen hsh hnv h0 h1 S;obtain⟨W,hW⟩:∃W,W=hgE e ar:=⟨_,rfl⟩
 rw[<-hW];have HW:Hid (W=hgE e ar):=hW;clear hW;have B0:Below w.heap.size w (w.alloc (.cells #[.int .i64 e.k,.int .i64 e.n,stv e.nm,.slice ao e.kids.len cap] 24)):=(Below.refl _ w).alloc (Nat.le_refl _) _;have E0:(w.alloc (.cells #[.int .i64 e.k,.int .i64 e.n,stv e.nm,.slice ao e.kids.len cap] 24)).heap[w.heap.size]?=some (.cells #[.int .i64 e.k,.int .i64 e.n,stv e.nm,.slice ao e.kids.len cap] 24):=heap_alloc_new w _;rw[exN_out];go_enter Tryd.func69,Tryd.ntmps69;go_upto_region 1 with fail;generalize w.alloc (.cells #[.int .i64 e.k,.int .i64 e.n,stv e.nm,.slice ao e.kids.len cap] 24)=w0 at *;obtain⟨bx,hbx⟩:∃bx,bx=w.heap.size:=⟨_,rfl⟩
 rw[<-hbx] at E0 B0 ⊢;have HB:Hid (bx=w.heap.size):=hbx;clear hbx;obtain⟨c0,hc0⟩:∃c0:Int,c0=if e.k=5/\e.n<ar then e.n+1 else 0:=⟨_,rfl⟩
 have hcb:0<=c0/\c0<=ar:=by
  rw[hc0];split
  ·have:=hnv.1 (by omega)
   omega
  ·omega
 have HA0:Hid (max c0 (hgF e.kids ar)=W):=by show _=W;rw[HW.out,hc0];rfl
 clear HW;obtain⟨p0,p1,p2,p3,pf⟩:=box4 E0;by_cases hv:e.k=5
 ·have hkb:(e.k==5)=true:=by simpa using hv
  by_cases hv2:e.n<ar
  ·have hv3:=hnv.1 hv;obtain rfl:c0=e.n+1:=by rw[hc0,if_pos ⟨hv,hv2⟩]
   clear hv hc0;go_wp2;go_loopw [5,6] (fun v1 v5 wr=>∃(done r:Fs) (c:Int),Hid (e.kids=done.app r)/\v1=.int .i64 c/\v5=.int .i64 (done.len:Nat)/\0<=c/\c<=ar/\Hid (max c (hgF r ar)=W)/\wr.heap[bx]?=some (.cells #[.int .i64 e.k,.int .i64 e.n,stv e.nm,.slice ao e.kids.len cap] 24)/\Below bx w wr) (fun _ v5 _=>e.kids.len-(intOf v5).toNat)
   case atStart=>exact⟨.nil,e.kids,e.n+1,rfl,rfl,by show _=Value.int .i64 ((0:Nat):Int);rfl,hcb.1,hcb.2,HA0,E0,B0⟩
   case round =>
    clear E0 B0 HA0 p0 p1 p2 p3 pf hcb;obtain⟨done,r,c,hk,rfl,rfl,hc0,hc1,HA,E1,B1⟩:=hrel;have hlk:e.kids.len=done.len+r.len:=by rw[hk.out,Fs.len_app]
    obtain⟨p0,p1,p2,p3,pf⟩:=box4 E1;cases r using Fs.on with
    | nil =>
     have hlt:¬(done.len:Int)<(e.kids.len:Int):=by simp only[Fs.len] at hlk;omega
     have FIN:Hid (W=c):=by show W=c;rw[<-HA.out];simp only[hgF];omega
     clear HA hlk;go_wp2;go_ret;rw[FIN.out];exact⟨rfl,by rw[<-HB.out];exact B1⟩
    | cons kk kn km ka kks kr =>
     have hlt:(done.len:Int)<(e.kids.len:Int):=by simp only[Fs.len] at hlk;omega
     have hl3:done.len<e.kids.len:=by omega
     have hsz:e.kids.size=done.size+(kks.size+kr.size+1):=by rw[hk.out,Fs.size_app];rfl
     have hwk:(Fs.cons kk kn km ka kks kr).short:=Fs.app_short (x:=done) (by rw[<-hk.out];exact hsh);have hnk:(Fs.cons kk kn km ka kks kr).nv:=(Fs.app_nv (x:=done) (by rw[<-hk.out];exact hnv.2)).2;obtain⟨b,off,ak,ck,hao,lb1,-,x0,x1,x2,x3,SK⟩:=SlN.kidQ (by rw[<-hk.out];exact SnA.below S (by rw[<-HB.out];exact B1));subst hao;have hbd:=hgE_le ar h0 ⟨kk,kn,km,ka,kks⟩;have hbp:=hgE_pos ar ⟨kk,kn,km,ka,kks⟩;have HA2:Hid (max (max c (hgE ⟨kk,kn,km,ka,kks⟩ ar)) (hgF kr ar)=W):=by show _=W;rw[<-HA.out,hg_cons];generalize hgE ⟨kk,kn,km,ka,kks⟩ ar=z;generalize hgF kr ar=y;omega
     have hk2:Hid (e.kids=(done.snoc ⟨kk,kn,km,ka,kks⟩).app kr):=by show e.kids=_;rw[hk.out];unfold Fs.snoc;rw[Fs.app_assoc];rfl
     have hl2:(done.len:Int)+1=((done.snoc ⟨kk,kn,km,ka,kks⟩).len:Nat):=by rw[Fs.len_snoc];rfl
     have hcc:=IH ⟨kk,kn,km,ka,kks⟩ ak ck ar wr (by show kks.size<N;omega) hwk.2.1 hwk.2.2.1 ⟨hnk.1,hnk.2.1⟩ h0 h1 SK;rw[exN_out] at hcc;simp only at hcc;generalize hgE ⟨kk,kn,km,ka,kks⟩ ar=c2 at *;clear HA hlk hsz hwk SK hk hnk;go_wp2_with fail;refine hcc.mono ?_;rintro x w2 ⟨rfl,b2⟩;have B2:=B1.trans (b2.mono (by have:=lt_of_block E1;omega));have E2:=(b2.block bx (lt_of_block E1)).trans E1;clear hcc x0 x1 x2 x3 p0 p1 p2 p3 pf b2 E1 B1;go_wp2;go_roundw
     case rel=>exact⟨_,kr,max c c2,hk2,rfl,by rw[<-hl2],by omega,by omega,HA2,E2,B2⟩
     case measure=>simp[intOf];omega
  ·obtain rfl:c0=0:=by rw[hc0,if_neg (fun h=>hv2 h.2)]
   clear hv hc0;go_wp2;go_loopw [5,6] (fun v1 v5 wr=>∃(done r:Fs) (c:Int),Hid (e.kids=done.app r)/\v1=.int .i64 c/\v5=.int .i64 (done.len:Nat)/\0<=c/\c<=ar/\Hid (max c (hgF r ar)=W)/\wr.heap[bx]?=some (.cells #[.int .i64 e.k,.int .i64 e.n,stv e.nm,.slice ao e.kids.len cap] 24)/\Below bx w wr) (fun _ v5 _=>e.kids.len-(intOf v5).toNat)
   case atStart=>exact⟨.nil,e.kids,0,rfl,rfl,by show _=Value.int .i64 ((0:Nat):Int);rfl,hcb.1,hcb.2,HA0,E0,B0⟩
   case round =>
    clear E0 B0 HA0 p0 p1 p2 p3 pf hcb;obtain⟨done,r,c,hk,rfl,rfl,hc0,hc1,HA,E1,B1⟩:=hrel;have hlk:e.kids.len=done.len+r.len:=by rw[hk.out,Fs.len_app]
    obtain⟨p0,p1,p2,p3,pf⟩:=box4 E1;cases r using Fs.on with
    | nil =>
     have hlt:¬(done.len:Int)<(e.kids.len:Int):=by simp only[Fs.len] at hlk;omega
     have FIN:Hid (W=c):=by show W=c;rw[<-HA.out];simp only[hgF];omega
     clear HA hlk;go_wp2;go_ret;rw[FIN.out];exact⟨rfl,by rw[<-HB.out];exact B1⟩
    | cons kk kn km ka kks kr =>
     have hlt:(done.len:Int)<(e.kids.len:Int):=by simp only[Fs.len] at hlk;omega
     have hl3:done.len<e.kids.len:=by omega
     have hsz:e.kids.size=done.size+(kks.size+kr.size+1):=by rw[hk.out,Fs.size_app];rfl
     have hwk:(Fs.cons kk kn km ka kks kr).short:=Fs.app_short (x:=done) (by rw[<-hk.out];exact hsh);have hnk:(Fs.cons kk kn km ka kks kr).nv:=(Fs.app_nv (x:=done) (by rw[<-hk.out];exact hnv.2)).2;obtain⟨b,off,ak,ck,hao,lb1,-,x0,x1,x2,x3,SK⟩:=SlN.kidQ (by rw[<-hk.out];exact SnA.below S (by rw[<-HB.out];exact B1));subst hao;have hbd:=hgE_le ar h0 ⟨kk,kn,km,ka,kks⟩;have hbp:=hgE_pos ar ⟨kk,kn,km,ka,kks⟩;have HA2:Hid (max (max c (hgE ⟨kk,kn,km,ka,kks⟩ ar)) (hgF kr ar)=W):=by show _=W;rw[<-HA.out,hg_cons];generalize hgE ⟨kk,kn,km,ka,kks⟩ ar=z;generalize hgF kr ar=y;omega
     have hk2:Hid (e.kids=(done.snoc ⟨kk,kn,km,ka,kks⟩).app kr):=by show e.kids=_;rw[hk.out];unfold Fs.snoc;rw[Fs.app_assoc];rfl
     have hl2:(done.len:Int)+1=((done.snoc ⟨kk,kn,km,ka,kks⟩).len:Nat):=by rw[Fs.len_snoc];rfl
     have hcc:=IH ⟨kk,kn,km,ka,kks⟩ ak ck ar wr (by show kks.size<N;omega) hwk.2.1 hwk.2.2.1 ⟨hnk.1,hnk.2.1⟩ h0 h1 SK;rw[exN_out] at hcc;simp only at hcc;generalize hgE ⟨kk,kn,km,ka,kks⟩ ar=c2 at *;clear HA hlk hsz hwk SK hk hnk;go_wp2_with fail;refine hcc.mono ?_;rintro x w2 ⟨rfl,b2⟩;have B2:=B1.trans (b2.mono (by have:=lt_of_block E1;omega));have E2:=(b2.block bx (lt_of_block E1)).trans E1;clear hcc x0 x1 x2 x3 p0 p1 p2 p3 pf b2 E1 B1;go_wp2;go_roundw
     case rel=>exact⟨_,kr,max c c2,hk2,rfl,by rw[<-hl2],by omega,by omega,HA2,E2,B2⟩
     case measure=>simp[intOf];omega
 ·have hkb:(e.k==5)=false:=by simpa using hv
  obtain rfl:c0=0:=by rw[hc0,if_neg (fun h=>hv h.1)]
  clear hv hc0;go_wp2;go_loopw [5,6] (fun v1 v5 wr=>∃(done r:Fs) (c:Int),Hid (e.kids=done.app r)/\v1=.int .i64 c/\v5=.int .i64 (done.len:Nat)/\0<=c/\c<=ar/\Hid (max c (hgF r ar)=W)/\wr.heap[bx]?=some (.cells #[.int .i64 e.k,.int .i64 e.n,stv e.nm,.slice ao e.kids.len cap] 24)/\Below bx w wr) (fun _ v5 _=>e.kids.len-(intOf v5).toNat)
  case atStart=>exact⟨.nil,e.kids,0,rfl,rfl,by show _=Value.int .i64 ((0:Nat):Int);rfl,hcb.1,hcb.2,HA0,E0,B0⟩
  case round =>
   clear E0 B0 HA0 p0 p1 p2 p3 pf hcb;obtain⟨done,r,c,hk,rfl,rfl,hc0,hc1,HA,E1,B1⟩:=hrel;have hlk:e.kids.len=done.len+r.len:=by rw[hk.out,Fs.len_app]
   obtain⟨p0,p1,p2,p3,pf⟩:=box4 E1;cases r using Fs.on with
   | nil =>
    have hlt:¬(done.len:Int)<(e.kids.len:Int):=by simp only[Fs.len] at hlk;omega
    have FIN:Hid (W=c):=by show W=c;rw[<-HA.out];simp only[hgF];omega
    clear HA hlk;go_wp2;go_ret;rw[FIN.out];exact⟨rfl,by rw[<-HB.out];exact B1⟩
   | cons kk kn km ka kks kr =>
    have hlt:(done.len:Int)<(e.kids.len:Int):=by simp only[Fs.len] at hlk;omega
    have hl3:done.len<e.kids.len:=by omega
    have hsz:e.kids.size=done.size+(kks.size+kr.size+1):=by rw[hk.out,Fs.size_app];rfl
    have hwk:(Fs.cons kk kn km ka kks kr).short:=Fs.app_short (x:=done) (by rw[<-hk.out];exact hsh);have hnk:(Fs.cons kk kn km ka kks kr).nv:=(Fs.app_nv (x:=done) (by rw[<-hk.out];exact hnv.2)).2;obtain⟨b,off,ak,ck,hao,lb1,-,x0,x1,x2,x3,SK⟩:=SlN.kidQ (by rw[<-hk.out];exact SnA.below S (by rw[<-HB.out];exact B1));subst hao;have hbd:=hgE_le ar h0 ⟨kk,kn,km,ka,kks⟩;have hbp:=hgE_pos ar ⟨kk,kn,km,ka,kks⟩;have HA2:Hid (max (max c (hgE ⟨kk,kn,km,ka,kks⟩ ar)) (hgF kr ar)=W):=by show _=W;rw[<-HA.out,hg_cons];generalize hgE ⟨kk,kn,km,ka,kks⟩ ar=z;generalize hgF kr ar=y;omega
    have hk2:Hid (e.kids=(done.snoc ⟨kk,kn,km,ka,kks⟩).app kr):=by show e.kids=_;rw[hk.out];unfold Fs.snoc;rw[Fs.app_assoc];rfl
    have hl2:(done.len:Int)+1=((done.snoc ⟨kk,kn,km,ka,kks⟩).len:Nat):=by rw[Fs.len_snoc];rfl
    have hcc:=IH ⟨kk,kn,km,ka,kks⟩ ak ck ar wr (by show kks.size<N;omega) hwk.2.1 hwk.2.2.1 ⟨hnk.1,hnk.2.1⟩ h0 h1 SK;rw[exN_out] at hcc;simp only at hcc;generalize hgE ⟨kk,kn,km,ka,kks⟩ ar=c2 at *;clear HA hlk hsz hwk SK hk hnk;go_wp2_with fail;refine hcc.mono ?_;rintro x w2 ⟨rfl,b2⟩;have B2:=B1.trans (b2.mono (by have:=lt_of_block E1;omega));have E2:=(b2.block bx (lt_of_block E1)).trans E1;clear hcc x0 x1 x2 x3 p0 p1 p2 p3 pf b2 E1 B1;go_wp2;go_roundw
    case rel=>exact⟨_,kr,max c c2,hk2,rfl,by rw[<-hl2],by omega,by omega,HA2,E2,B2⟩
    case measure=>simp[intOf];omega
theorem hangd_ok:∀ N,HangDOk N -- 69
 | 0=>fun e ao cap ar w h=>absurd h (Nat.not_lt_zero _)
 | N+1=>hangd_step (hangd_ok N)
structure FitN (e:Ex):Prop where
 nm:e.nm.length<=maxLen
 len:e.kids.len<=1000000000
 sh:e.kids.short
def KT (w:World)(P:Nat->Prop)(kb nc:Nat)(t:Nat->Option Ex):Prop :=
 ∃arr:Array Value,w.heap[kb]?=some (.cells arr 22 (0,0))/\arr.size=nc /\
  ∀ i,i<nc->(t i=none/\arr[i]?=some (.slice none 0 0))\/∃x y g cap,t i=some x/\sameE x y=true/\arr[i]?=some (.slice (some ⟨g,0,none⟩) 1 cap)/\SlN w P (one y) (some ⟨g,0,none⟩)/\FitN y
theorem KT.mono {w w':World}{P:Nat->Prop}{kb nc:Nat}{t:Nat->Option Ex}(h:KT w P kb nc t)(e:w'.heap[kb]?=w.heap[kb]?)(hb:∀ k,P k->k<w.heap.size->w'.heap[k]?=w.heap[k]?)(hs:w.heap.size<=w'.heap.size):KT w' P kb nc t:=by
 obtain⟨arr,h1,h2,h3⟩:=h;refine⟨arr,e.trans h1,h2,fun i hi=>?_⟩;rcases h3 i hi with h4|⟨x,y,g,cap,q1,q2,q3,q4,q5⟩
 ·exact .inl h4
 ·exact .inr ⟨x,y,g,cap,q1,q2,q3,q4.mono hb hs (fun _ h _=>h),q5⟩
def WD (w:World)(wb kb:Nat)(bv:Value)(nc:Nat):Dg->Prop
 | some s=>w.heap[wb]?=some (.cells #[bv,.int .i64 (s.1:Nat),.slice (some ⟨kb,0,none⟩) nc nc,.bool true] 70 (0,0))/\s.1<=4096/\KT w (Nf2 wb kb) kb nc s.2
 | none=>kb<w.heap.size/\∃p kv,w.heap[wb]?=some (.cells #[bv,.int .i64 p,kv,.bool false] 70 (0,0))
theorem WD.lt {w:World}{wb kb:Nat}{bv:Value}{nc:Nat}{st:Dg}(h:WD w wb kb bv nc st):wb<w.heap.size:=by
 cases st with
 | none=>obtain⟨-,p,kv,h⟩:=h;exact lt_of_block h
 | some s=>exact lt_of_block h.1
theorem WD.ltk {w:World}{wb kb:Nat}{bv:Value}{nc:Nat}{st:Dg}(h:WD w wb kb bv nc st):kb<w.heap.size:=by
 cases st with
 | none=>exact h.1
 | some s=>obtain⟨-,-,arr,h,-⟩:=h;exact lt_of_block h
theorem WD.below {w w':World}{wb kb:Nat}{bv:Value}{nc:Nat}{st:Dg}(h:WD w wb kb bv nc st)(b:Below w.heap.size w w'):WD w' wb kb bv nc st:=by
 have hl:=h.lt;cases st with
 | none=>obtain⟨hk,p,kv,h⟩:=h;exact⟨Nat.lt_of_lt_of_le hk b.size,p,kv,(b.block _ hl).trans h⟩
 | some s =>
  obtain⟨h1,h2,h3⟩:=h;have hk:kb<w.heap.size:=by obtain⟨arr,h,-⟩:=h3;exact lt_of_block h
  exact⟨(b.block _ hl).trans h1,h2,h3.mono (b.block _ hk) (fun i _ hl=>b.block i hl) b.size⟩
def PostKD (w:World)(wb kb:Nat)(bv:Value)(nc:Nat)(r:Option (Rg × Int))(x:Ending)(w':World):Prop :=
 (∃k',x=.returned (.int .i64 k')/\∀ s k,r=some (s,k)->k'=k)/\WD w' wb kb bv nc (r.map (·.1))/\Kp wb kb w w'
def KindD (N:Nat):Prop:=∀ (e:Ex) (ao:Option Addr) (cap wb kb:Nat) (bv:Value) (cells:List Int) (ar wi:Nat) (s:Rg) (w:World),e.kids.size<N->FitN e->wi<=4->ar<=wi->wb≠kb->WD w wb kb bv cells.length (some s)->Inw w (Nf2 wb kb) bv cells->SlN w (Nf2 wb kb) e.kids ao ->
 Calls Tryd.prog 21 #[.pointer (some ⟨wb,0,none⟩),exN e ao cap,.int .i64 (ar:Nat),.int .i64 (wi:Nat)] w (PostKD w wb kb bv cells.length (kndD cells e ar wi s))
def mchD (r:Option (Rg × Int))(m:Int):Dg:=match r with|none=>none|some (s',k)=>if k=m then some s' else none
def PostMD (w:World)(wb kb:Nat)(bv:Value)(nc:Nat)(st:Dg)(x:Ending)(w':World):Prop:=x=.returned (.tuple #[])/\WD w' wb kb bv nc st/\Kp wb kb w w'
theorem set4d {w:World}{b:Nat}{a0 a1 a2 a3:Value}{t:TypeId}(h:w.heap[b]?=some (.cells #[a0,a1,a2,a3] t (0,0)))(v:Value) :
  (w.setCell ⟨b,1,none⟩ v).heap[b]?=some (.cells #[a0,v,a2,a3] t (0,0))/\(w.setCell ⟨b,3,none⟩ v).heap[b]?=some (.cells #[a0,a1,a2,v] t (0,0)) :=
 ⟨(Blk.set (o:=fun _=>0) (i:=0) ⟨h,rfl⟩ 1 v).1,(Blk.set (o:=fun _=>0) (i:=0) ⟨h,rfl⟩ 3 v).1⟩
theorem kind_bad (e:Ex)(ao:Option Addr)(cap wb kb:Nat)(bv:Value)(nc:Nat)(ar wi:Nat)(w:World)(h:WD w wb kb bv nc none) :
  Calls Tryd.prog 21 #[.pointer (some ⟨wb,0,none⟩),exN e ao cap,.int .i64 (ar:Nat),.int .i64 (wi:Nat)] w (PostKD w wb kb bv nc none):=by
 have B0:Below w.heap.size w (w.alloc (.cells #[.int .i64 e.k,.int .i64 e.n,stv e.nm,.slice ao e.kids.len cap] 24)):=(Below.refl _ w).alloc (Nat.le_refl _) _;have E0:(w.alloc (.cells #[.int .i64 e.k,.int .i64 e.n,stv e.nm,.slice ao e.kids.len cap] 24)).heap[w.heap.size]?=some (.cells #[.int .i64 e.k,.int .i64 e.n,stv e.nm,.slice ao e.kids.len cap] 24):=heap_alloc_new w _;have W0:=h.below B0;clear h;rw[exN_out];go_enter Tryd.func21,Tryd.ntmps21;go_upto_region 1 with fail;generalize w.alloc (.cells #[.int .i64 e.k,.int .i64 e.n,stv e.nm,.slice ao e.kids.len cap] 24)=w0 at *;obtain⟨hk0,p,kv,W0⟩:=W0;obtain⟨q0,q1,q2,q3,qf⟩:=box4 W0;have KK:Kp wb kb w w0:=Kp.ofBelow B0;clear E0 B0;have F1:=(set4d W0 (.int .i64 (wrap64 (p+1)))).1;have K1:=KK.set ⟨wb,1,none⟩ (.int .i64 (wrap64 (p+1))) (.inr (.inl rfl));have hk1:kb<(w0.setCell ⟨wb,1,none⟩ (.int .i64 (wrap64 (p+1)))).heap.size:=by simpa using hk0
 clear KK W0;go_upto_region 2 with fail;generalize w0.setCell ⟨wb,1,none⟩ (.int .i64 (wrap64 (p+1)))=w1 at *;generalize wrap64 (p+1)=p1 at *;clear q0 q1 q2 q3 qf;obtain⟨q0,q1,q2,q3,qf⟩:=box4 F1;have HZ:Hid (PostKD w wb kb bv nc none (.returned (.int .i64 0)) (w1.setCell ⟨wb,3,none⟩ (.bool false))):=⟨⟨0,rfl,fun s k h=>by cases h⟩,⟨by simpa using hk1,p1,kv,(set4d F1 (.bool false)).2⟩,K1.set _ _ (.inr (.inl rfl))⟩
 clear F1 K1;go_wp2;exact bodyPost_ret (v:=.int .i64 0) (by simp[results,Tryd.results21,go_sem]) rfl HZ.out
theorem must_d {N:Nat}(IH:KindD N)(e:Ex)(ao:Option Addr)(cap wb kb:Nat)(bv:Value)(cells:List Int)(ar wi:Nat)(m:Int)(st:Dg)(w:World)(hN:st≠none->e.kids.size<N)(hf:FitN e)(hwi:wi<=4)(har:ar<=wi)(hne:wb≠kb)(hm:st≠none->m≠4)(h:WD w wb kb bv cells.length st)(hn:Inw w (Nf2 wb kb) bv cells)(S:SlN w (Nf2 wb kb) e.kids ao) :
  Calls Tryd.prog 44 #[.pointer (some ⟨wb,0,none⟩),exN e ao cap,.int .i64 (ar:Nat),.int .i64 (wi:Nat),.int .i64 m] w (PostMD w wb kb bv cells.length (musD cells st m e ar wi)):=by
 have B0:Below w.heap.size w (w.alloc (.cells #[.int .i64 e.k,.int .i64 e.n,stv e.nm,.slice ao e.kids.len cap] 24)):=(Below.refl _ w).alloc (Nat.le_refl _) _;have E0:(w.alloc (.cells #[.int .i64 e.k,.int .i64 e.n,stv e.nm,.slice ao e.kids.len cap] 24)).heap[w.heap.size]?=some (.cells #[.int .i64 e.k,.int .i64 e.n,stv e.nm,.slice ao e.kids.len cap] 24):=heap_alloc_new w _;have W0:=h.below B0;have S0:=S.belowP B0;have N0:=hn.below B0;clear h S hn;rw[exN_out];go_enter Tryd.func44,Tryd.ntmps44;go_upto_region 1 with fail;generalize w.alloc (.cells #[.int .i64 e.k,.int .i64 e.n,stv e.nm,.slice ao e.kids.len cap] 24)=w0 at *;have KK:Kp wb kb w w0:=Kp.ofBelow B0;obtain⟨p0,p1,p2,p3,pf⟩:=box4 E0;clear E0 B0;have hc:∃r:Option (Rg × Int),Calls Tryd.prog 21 #[.pointer (some ⟨wb,0,none⟩),exN e ao cap,.int .i64 (ar:Nat),.int .i64 (wi:Nat)] w0 (PostKD w0 wb kb bv cells.length r)/\musD cells st m e ar wi=mchD r m:=by
  cases st with
  | none=>exact⟨none,kind_bad e ao cap wb kb bv cells.length ar wi w0 W0,rfl⟩
  | some s=>exact⟨_,IH e ao cap wb kb bv cells ar wi s w0 (hN (by simp)) hf hwi har hne W0 N0 S0,musD_knd (hm (by simp))⟩
 obtain⟨r,c1,hr⟩:=hc;have HR:Hid (musD cells st m e ar wi=mchD r m):=hr;clear hr W0 S0 N0 hN IH;generalize musD cells st m e ar wi=Z at *;rw[exN_out] at c1;go_wp2_with fail;refine c1.mono ?_;rintro x w1 ⟨⟨k',rfl,hk'⟩,W1,K1⟩;have KW:=KK.trans K1;clear c1 p0 p1 p2 p3 pf KK K1;have BAD:∀ {b:Bool},WD w1 wb kb bv cells.length (r.map (·.1))->Hid (Z=none)->(∃a1 a2,w1.heap[wb]?=some (.cells #[bv,a1,a2,.bool b] 70 (0,0))/\∃p,a1=.int .i64 p)->Hid (PostMD w wb kb bv cells.length Z (.returned (.tuple #[])) (w1.setCell ⟨wb,3,none⟩ (.bool false))):=by
  intro b h1 hz h2;obtain⟨a1,a2,h2,p,rfl⟩:=h2;refine⟨rfl,?_,KW.set _ _ (.inr (.inl rfl))⟩;rw[hz.out];exact⟨by simpa using h1.ltk,p,a2,(set4d h2 (.bool false)).2⟩
 cases hrr:r with
 | none =>
  rw[hrr] at W1;have W2:=W1;obtain⟨-,p,kv,W1⟩:=W1;have HZ0:Hid (Z=none):=by show Z=none;rw[HR.out,hrr];rfl
  have HB:=BAD (by rw[hrr];exact W2) HZ0 ⟨_,_,W1,p,rfl⟩;have HZ:Hid (PostMD w wb kb bv cells.length Z (.returned (.tuple #[])) w1):=⟨rfl,by rw[HZ0.out];exact W2,KW⟩
  obtain⟨q0,q1,q2,q3,qf⟩:=box4 W1;clear BAD HR hrr hk' KW W2 W1 HZ0;by_cases hkm:k'=m
  ·have hne:(k' != m)=false:=by simpa using hkm
   clear hkm;go_wp2
   go_end0
   exact HZ.out
  ·have hne:(k' != m)=true:=by simpa using hkm
   clear hkm;go_wp2
   go_end0
   exact HB.out
 | some z =>
  obtain⟨s,k⟩:=z;obtain rfl:=hk' s k hrr;rw[hrr] at W1;have W2:WD w1 wb kb bv cells.length (some s):=W1;obtain⟨W1,hs,hkt⟩:=W2;obtain⟨q0,q1,q2,q3,qf⟩:=box4 W1;by_cases hkm:k'=m
  ·have hne:(k' != m)=false:=by simpa using hkm
   have HZ:Hid (PostMD w wb kb bv cells.length Z (.returned (.tuple #[])) w1):=⟨rfl,by rw[HR.out,hrr];simp only[mchD];rw[if_pos hkm];exact⟨W1,hs,hkt⟩,KW⟩
   clear BAD HR hrr hk' KW W1 hkt hkm;go_wp2
   go_end0
   exact HZ.out
  ·have hne:(k' != m)=true:=by simpa using hkm
   have HB:=BAD (by rw[hrr];exact⟨W1,hs,hkt⟩) (by show Z=none;rw[HR.out,hrr];simp only[mchD];rw[if_neg hkm]) ⟨_,_,W1,_,rfl⟩;clear BAD HR hrr hk' KW W1 hkt hkm;go_wp2
   go_end0
   exact HB.out
theorem FitN.kid {e:Ex}{d r:Fs}{x:Ex}(h:FitN e)(hk:e.kids=d.app (Fs.ex x r)):FitN x:=by
 have:=Fs.app_short (x:=d) (y:=Fs.ex x r) (by rw[<-hk];exact h.sh)
 exact⟨this.1,this.2.1,this.2.2.1⟩
theorem WD.okc {w:World}{wb kb:Nat}{bv:Value}{nc:Nat}{st:Dg}(h:WD w wb kb bv nc st):∃a1 a2,w.heap[wb]?=some (.cells #[bv,a1,a2,.bool st.isSome] 70 (0,0)):=by
 cases st with
 | none=>obtain⟨-,p,kv,h⟩:=h;exact⟨_,_,h⟩
 | some s=>exact⟨_,_,h.1⟩
theorem all_d {N:Nat}(IH:KindD N)(e:Ex)(ao:Option Addr)(cap wb kb:Nat)(bv:Value)(cells:List Int)(ar wi:Nat)(m g:Int)(st:Dg)(w:World)(hN:e.kids.size<=N)(hf:FitN e)(hwi:wi<=4)(har:ar<=wi)(hne:wb≠kb)(hm:m≠4)(h:WD w wb kb bv cells.length st)(hn:Inw w (Nf2 wb kb) bv cells)(S:SlN w (Nf2 wb kb) e.kids ao) :
  Calls Tryd.prog 43 #[.pointer (some ⟨wb,0,none⟩),exN e ao cap,.int .i64 (ar:Nat),.int .i64 (wi:Nat),.int .i64 m,.int .i64 g] w fun z w'=>z=.returned (.int .i64 g)/\WD w' wb kb bv cells.length (musDL cells e.kids st m ar wi)/\Kp wb kb w w':=by
 obtain⟨Z,hZ⟩:∃Z,Z=musDL cells e.kids st m ar wi:=⟨_,rfl⟩
 rw[<-hZ];have HZ:Hid (Z=musDL cells e.kids st m ar wi):=hZ;clear hZ;have hlen:=hf.len;have B0:Below w.heap.size w (w.alloc (.cells #[.int .i64 e.k,.int .i64 e.n,stv e.nm,.slice ao e.kids.len cap] 24)):=(Below.refl _ w).alloc (Nat.le_refl _) _;have E0:(w.alloc (.cells #[.int .i64 e.k,.int .i64 e.n,stv e.nm,.slice ao e.kids.len cap] 24)).heap[w.heap.size]?=some (.cells #[.int .i64 e.k,.int .i64 e.n,stv e.nm,.slice ao e.kids.len cap] 24):=heap_alloc_new w _;have W0:=h.below B0;have S0:=S.belowP B0;have N0:=hn.below B0;have hwb:=h.lt;have hkb:=h.ltk;clear h S hn;rw[exN_out];go_enter Tryd.func43,Tryd.ntmps43;go_upto_region 1 with fail;generalize w.alloc (.cells #[.int .i64 e.k,.int .i64 e.n,stv e.nm,.slice ao e.kids.len cap] 24)=w0 at *;have KK:Kp wb kb w w0:=Kp.ofBelow B0;obtain⟨bx,hbx⟩:∃bx,bx=w.heap.size:=⟨_,rfl⟩
 rw[<-hbx] at E0 ⊢;have hb1:bx≠wb:=by omega
 have hb2:bx≠kb:=by omega
 clear hbx hwb hkb;go_wp2;go_loopw [13] (fun v wr=>∃(d r:Fs) (st':Dg),Hid (e.kids=d.app r)/\v=.int .i64 (d.len:Nat)/\Hid (musDL cells r st' m ar wi=Z)/\WD wr wb kb bv cells.length st'/\wr.heap[bx]?=some (.cells #[.int .i64 e.k,.int .i64 e.n,stv e.nm,.slice ao e.kids.len cap] 24)/\Inw wr (Nf2 wb kb) bv cells/\SlN wr (Nf2 wb kb) e.kids ao/\Kp wb kb w wr) (fun v _=>e.kids.len-(intOf v).toNat)
 case atStart=>exact⟨.nil,e.kids,st,rfl,by show _=Value.int .i64 ((0:Nat):Int);rfl,HZ.out.symm,W0,E0,N0,S0,KK⟩
 case round =>
  clear E0 B0 HZ W0 N0 S0 KK;obtain⟨d,r,st',hk,rfl,HA,W1,E1,N1,S1,K1⟩:=hrel;have hlk:e.kids.len=d.len+r.len:=by rw[hk.out,Fs.len_app]
  obtain⟨p0,p1,p2,p3,pf⟩:=box4 E1;cases r using Fs.on with
  | nil =>
   have hlt:¬(d.len:Int)<(e.kids.len:Int):=by simp only[Fs.len] at hlk;omega
   have FIN:Hid (WD wr wb kb bv cells.length Z/\Kp wb kb w wr):=by rw[<-HA.out];exact⟨W1,K1⟩
   clear HA hlk W1 K1 N1 S1 E1;go_wp2;go_ret;exact⟨rfl,FIN.out.1,FIN.out.2⟩
  | cons kk kn km ka kks kr =>
   have hlt:(d.len:Int)<(e.kids.len:Int):=by simp only[Fs.len] at hlk;omega
   have hl3:d.len<e.kids.len:=by omega
   have hsz:e.kids.size=d.size+(kks.size+kr.size+1):=by rw[hk.out,Fs.size_app];rfl
   have hfk:FitN ⟨kk,kn,km,ka,kks⟩:=hf.kid (d:=d) (r:=kr) hk.out;obtain⟨b,off,ak,ck,hao,lb1,-,x0,x1,x2,x3,SK⟩:=SlN.kidQ (by rw[<-hk.out];exact S1);subst hao;have c1:=must_d IH ⟨kk,kn,km,ka,kks⟩ ak ck wb kb bv cells ar wi m st' wr (fun _=>by show kks.size<N;omega) hfk hwi har hne (fun _=>hm) W1 N1 SK;rw[exN_out] at c1;simp only at c1;have HA2:Hid (musDL cells kr (musD cells st' m ⟨kk,kn,km,ka,kks⟩ ar wi) m ar wi=Z):=HA.out;have hk2:Hid (e.kids=(d.snoc ⟨kk,kn,km,ka,kks⟩).app kr):=by show e.kids=_;rw[hk.out];unfold Fs.snoc;rw[Fs.app_assoc];rfl
   have hl2:(d.len:Int)+1=((d.snoc ⟨kk,kn,km,ka,kks⟩).len:Nat):=by rw[Fs.len_snoc];rfl
   generalize musD cells st' m ⟨kk,kn,km,ka,kks⟩ ar wi=st2 at *;clear HA hlk hsz hfk SK hk W1;go_wp2_with fail;refine c1.mono ?_;rintro x w2 ⟨rfl,W2,k2⟩;have E2:=(k2.block bx (lt_of_block E1) hb1 hb2).trans E1;have N2:=N1.kp k2;have S2:=S1.kp k2;have K2:=K1.trans k2;clear c1 x0 x1 x2 x3 p0 p1 p2 p3 pf k2 E1 K1 N1 S1;go_wp2;go_roundw
   case rel=>exact⟨_,kr,st2,hk2,by rw[<-hl2],HA2,W2,E2,N2,S2,K2⟩
   case measure=>simp[intOf];omega
theorem wkP_ne (ks:List Int)(i:Nat):wkP ks i≠4:=by
 unfold wkP;split
 ·split<;>omega
 ·omega
theorem formP_set {k n:Int}{kd:List Int}(h:(formP k n kd).2=4):22<=k/\k<=25:=by
 apply Classical.byContradiction;intro hc;have h0:=wkP_ne kd 0;have h1:=wkP_ne kd 1;have hk:(1<=k/\k<=3)\/(5<=k/\k<=26):=formP_kind (by rw[h];decide);have hc2:k=1\/k=2\/k=3\/k=5\/k=6\/k=7\/k=8\/k=9\/k=10\/k=11\/k=12\/k=13\/k=14\/k=15\/k=16\/k=17\/k=18\/k=19\/k=20\/k=21\/k=26:=by omega
 rcases hc2 with rfl|rfl|rfl|rfl|rfl|rfl|rfl|rfl|rfl|rfl|rfl|rfl|rfl|rfl|rfl|rfl|rfl|rfl|rfl|rfl|rfl<;>simp[formP,h0,h1] at h
 all_goals (
  revert h
  split
  ·simp
  ·split
   ·simp
   ·first|(split<;>simp)|simp)
theorem mus_bad1 {cells:List Int}{s:Rg}{m:Int}{e:Ex}{ar wi:Nat}(h:4096<s.1+1):musD cells (some s) m e ar wi=none:=by
 simp only[musD];rw[gd_bad (fun hg=>hg (.inl h))]
theorem mus_bad2 {cells:List Int}{s:Rg}{e:Ex}{ar wi:Nat}(h:e.k<22\/25<e.k):musD cells (some s) 4 e ar wi=none:=by
 simp only[musD];cases hr:rgE cells e ar wi s with
 | none=>rfl
 | some z =>
  obtain⟨s',k⟩:=z;simp only;split
  ·rename_i hk
   obtain⟨-,s1,kd,-,-,-,-,h5,-⟩:=rgE_inv hr
   have:=formP_set (h5.symm.trans hk)
   omega
  ·rfl
theorem mus_bad3 {cells:List Int}{s:Rg}{m:Int}{e:Ex}{ar wi:Nat}(h:docF e.k e.n e.nm e.kids.len=false):musD cells (some s) m e ar wi=none:=by
 simp only[musD];rw[docF_bad h]
theorem mus_set {cells:List Int}{s:Rg}{e:Ex}{ar wi:Nat}(h:docF e.k e.n e.nm e.kids.len=true)(hk:22<=e.k/\e.k<=25)(hs:s.1+1<=4096)(hw:wi<=4):musD cells (some s) 4 e ar wi=musDL cells e.kids (some (s.1+1,s.2)) 3 ar wi:=by
 have hg:gdE cells e ar wi s:=docF_gd h hs hw (fun h5=>by omega) (fun h6=>by omega);have hf:∀ kd:List Int,kd.length=e.kids.len->formP e.k e.n kd=(List.replicate e.kids.len 3,4):=by
  intro kd hl;have hc:e.k=22\/e.k=23\/e.k=24\/e.k=25:=by omega
  rcases hc with hc|hc|hc|hc<;>rw[hc] at h ⊢<;>simp[docF] at h
  ·rw[h.2.2];rfl
  ·rw[h.2.1];rfl
  ·rw[h.2.2];rfl
  ·rw[<-hl];rfl
 simp only[musD];rw[rg_all 3 4 hg (by omega) (by omega) hf (by omega)];cases musDL cells e.kids (some (s.1+1,s.2)) 3 ar wi with
 | none=>rfl
 | some s'=>rfl
theorem KT.set {w:World}{wb kb nc:Nat}{t:Nat->Option Ex}(h:KT w (Nf2 wb kb) kb nc t)(p:Addr)(v:Value)(hp:p.block=wb)(hne:wb≠kb):KT (w.setCell p v) (Nf2 wb kb) kb nc t :=
 h.mono (heap_setCell_other w p kb v (by rw[hp];exact fun h=>hne h.symm)) (fun k hk _=>heap_setCell_other w p k v (by rw[hp];exact hk.1)) (by simp)
theorem Inw.set {w:World}{wb kb:Nat}{bv:Value}{xs:List Int}(h:Inw w (Nf2 wb kb) bv xs)(p:Addr)(v:Value)(hp:p.block=wb):Inw (w.setCell p v) (Nf2 wb kb) bv xs :=
 h.mono (fun k hk _=>heap_setCell_other w p k v (by rw[hp];exact hk.1)) (by simp) (fun _ h _=>h)
theorem SlN.set {w:World}{wb kb:Nat}{f:Fs}{ao:Option Addr}(h:SlN w (Nf2 wb kb) f ao)(p:Addr)(v:Value)(hp:p.block=wb):SlN (w.setCell p v) (Nf2 wb kb) f ao :=
 h.mono (fun k hk _=>heap_setCell_other w p k v (by rw[hp];exact hk.1)) (by simp) (fun _ h _=>h)
theorem set_d {N:Nat}(IH:KindD N)(e:Ex)(ao:Option Addr)(cap wb kb:Nat)(bv:Value)(cells:List Int)(ar wi:Nat)(s:Rg)(w:World)(hN:e.kids.size<=N)(hf:FitN e)(hwi:wi<=4)(har:ar<=wi)(hne:wb≠kb)(h:WD w wb kb bv cells.length (some s))(hn:Inw w (Nf2 wb kb) bv cells)(S:SlN w (Nf2 wb kb) e.kids ao) :
  Calls Tryd.prog 66 #[.pointer (some ⟨wb,0,none⟩),exN e ao cap,.int .i64 (ar:Nat),.int .i64 (wi:Nat)] w (PostMD w wb kb bv cells.length (musD cells (some s) 4 e ar wi)):=by
 obtain⟨Z,hZ⟩:∃Z,Z=musD cells (some s) 4 e ar wi:=⟨_,rfl⟩
 rw[<-hZ];have HZ:Hid (Z=musD cells (some s) 4 e ar wi):=hZ;clear hZ;have hlen:=hf.len;have B0:Below w.heap.size w (w.alloc (.cells #[.int .i64 e.k,.int .i64 e.n,stv e.nm,.slice ao e.kids.len cap] 24)):=(Below.refl _ w).alloc (Nat.le_refl _) _;have E0:(w.alloc (.cells #[.int .i64 e.k,.int .i64 e.n,stv e.nm,.slice ao e.kids.len cap] 24)).heap[w.heap.size]?=some (.cells #[.int .i64 e.k,.int .i64 e.n,stv e.nm,.slice ao e.kids.len cap] 24):=heap_alloc_new w _;have W0:=h.below B0;have S0:=S.belowP B0;have N0:=hn.below B0;have hwb:=h.lt;have hkb:=h.ltk;clear h S hn;rw[exN_out];go_enter Tryd.func66,Tryd.ntmps66;go_upto_region 1 with fail;generalize w.alloc (.cells #[.int .i64 e.k,.int .i64 e.n,stv e.nm,.slice ao e.kids.len cap] 24)=w0 at *;have KK:Kp wb kb w w0:=Kp.ofBelow B0;obtain⟨bx,hbx⟩:∃bx,bx=w.heap.size:=⟨_,rfl⟩
 rw[<-hbx] at E0 ⊢;have hb1:bx≠wb:=by omega
 have hb2:bx≠kb:=by omega
 have hkb0:=W0.ltk;obtain⟨W0,hs,KT0⟩:=W0;obtain⟨q0,q1,q2,q3,qf⟩:=box4 W0;have F1:=(set4d W0 (.int .i64 ((s.1:Int)+1))).1;have K1:=KK.set ⟨wb,1,none⟩ (.int .i64 ((s.1:Int)+1)) (.inr (.inl rfl));have E1:=(heap_setCell_other w0 ⟨wb,1,none⟩ bx (.int .i64 ((s.1:Int)+1)) hb1).trans E0;have N1:=N0.set ⟨wb,1,none⟩ (.int .i64 ((s.1:Int)+1)) rfl;have S1:=S0.set ⟨wb,1,none⟩ (.int .i64 ((s.1:Int)+1)) rfl;have KT1:=KT0.set ⟨wb,1,none⟩ (.int .i64 ((s.1:Int)+1)) rfl hne;have hk1:kb<(w0.setCell ⟨wb,1,none⟩ (.int .i64 ((s.1:Int)+1))).heap.size:=by simpa using hkb0
 clear hbx hwb hkb B0 E0 KK N0 S0 KT0 W0;go_upto_region 2 with fail;generalize w0.setCell ⟨wb,1,none⟩ (.int .i64 ((s.1:Int)+1))=w1 at *;clear q0 q1 q2 q3 qf hkb0;obtain⟨q0,q1,q2,q3,qf⟩:=box4 F1;obtain⟨p0,p1,p2,p3,pf⟩:=box4 E1;have c1:=form_q e ao cap w1 hf.nm;rw[exN_out] at c1;have BAD:∀ {w2:World},Hid (Z=none)->Below w1.heap.size w1 w2->Hid (PostMD w wb kb bv cells.length Z (.returned (.tuple #[])) (w2.setCell ⟨wb,3,none⟩ (.bool false))):=by
  intro w2 hz b2;refine⟨rfl,?_,(K1.trans (Kp.ofBelow b2)).set _ _ (.inr (.inl rfl))⟩;rw[hz.out];exact⟨by simpa using Nat.lt_of_lt_of_le hk1 b2.size,_,_,(set4d ((b2.block _ (lt_of_block F1)).trans F1) (.bool false)).2⟩
 by_cases hs1:4096<s.1+1
 ·have HB:=BAD (by show Z=none;rw[HZ.out];exact mus_bad1 hs1) (Below.refl _ w1);have hI:(4096:Int)<(s.1:Int)+1:=by omega
  clear BAD HZ;clear c1 p1 p2 p3 N1 S1 E1 KT1;go_wp2
  go_end0
  exact HB.out
 have hI:¬(4096:Int)<(s.1:Int)+1:=by omega
 by_cases hk1:e.k<22
 ·have HB:=BAD (by show Z=none;rw[HZ.out];exact mus_bad2 (.inl hk1)) (Below.refl _ w1);clear BAD HZ;clear c1 p1 p2 p3 N1 S1 E1 KT1;go_wp2
  go_end0
  exact HB.out
 by_cases hk2:25<e.k
 ·have HB:=BAD (by show Z=none;rw[HZ.out];exact mus_bad2 (.inr hk2)) (Below.refl _ w1);clear BAD HZ;clear c1 p1 p2 p3 N1 S1 E1 KT1;go_wp2
  go_end0
  exact HB.out
 go_wp2_with fail;refine c1.mono ?_;rintro x w2 ⟨rfl,b2⟩;have F2:=(b2.block _ (lt_of_block F1)).trans F1;have E2:=(b2.block _ (lt_of_block E1)).trans E1;have N2:=N1.below b2;have S2:=S1.belowP b2;have hkt:=KT1;obtain⟨arr,hkx,-⟩:=hkt;have KT2:=KT1.mono (b2.block _ (lt_of_block hkx)) (fun i _ hl=>b2.block i hl) b2.size;have K2:=K1.trans (Kp.ofBelow b2);cases hd:docF e.k e.n e.nm e.kids.len with
 | false =>
  have HB:=BAD (by show Z=none;rw[HZ.out];exact mus_bad3 hd) b2;clear c1 BAD HZ q0 q1 q2 q3 qf p0 p1 p2 p3 pf hkx;obtain⟨q0,q1,q2,q3,qf⟩:=box4 F2;obtain⟨p0,p1,p2,p3,pf⟩:=box4 E2;clear F1 E1 N1 S1 KT1 K1 K2 KT2 N2 S2 F2 E2;go_wp2
  go_end0
  exact HB.out
 | true =>
  have HZ2:Hid (musDL cells e.kids (some (s.1+1,s.2)) 3 ar wi=Z):=by show _=Z;rw[HZ.out];exact(mus_set hd (by omega) (by omega) hwi).symm
  have W2:WD w2 wb kb bv cells.length (some (s.1+1,s.2)):=⟨F2,by show s.1+1<=4096;omega,KT2⟩
  clear c1 BAD HZ q0 q1 q2 q3 qf p0 p1 p2 p3 pf hkx;clear F1 E1 N1 S1 KT1 K1 KT2 F2 b2 hd;go_wp2;go_loopw [8] (fun v wr=>∃(d r:Fs) (st':Dg),Hid (e.kids=d.app r)/\v=.int .i64 (d.len:Nat)/\Hid (musDL cells r st' 3 ar wi=Z)/\WD wr wb kb bv cells.length st'/\wr.heap[bx]?=some (.cells #[.int .i64 e.k,.int .i64 e.n,stv e.nm,.slice ao e.kids.len cap] 24)/\Inw wr (Nf2 wb kb) bv cells/\SlN wr (Nf2 wb kb) e.kids ao/\Kp wb kb w wr) (fun v _=>e.kids.len-(intOf v).toNat)
  case atStart=>exact⟨.nil,e.kids,_,rfl,by show _=Value.int .i64 ((0:Nat):Int);rfl,HZ2.out,W2,E2,N2,S2,K2⟩
  case round =>
   clear HZ2 W2 E2 N2 S2 K2;obtain⟨d,r,st',hk,rfl,HA,W1,E1,N1,S1,K1⟩:=hrel;have hlk:e.kids.len=d.len+r.len:=by rw[hk.out,Fs.len_app]
   obtain⟨p0,p1,p2,p3,pf⟩:=box4 E1;obtain⟨a1,a2,V1⟩:=W1.okc;obtain⟨q0,q1,q2,q3,qf⟩:=box4 V1;cases r using Fs.on with
   | nil =>
    have hlt:¬(d.len:Int)<(e.kids.len:Int):=by simp only[Fs.len] at hlk;omega
    have FIN:Hid (PostMD w wb kb bv cells.length Z (.returned (.tuple #[])) wr):=⟨rfl,by rw[<-HA.out];exact W1,K1⟩
    clear HA hlk W1 K1 N1 S1 E1;go_wp2
    go_end0
    exact FIN.out
   | cons kk kn km ka kks kr =>
    have hlt:(d.len:Int)<(e.kids.len:Int):=by simp only[Fs.len] at hlk;omega
    have hl3:d.len<e.kids.len:=by omega
    cases st' with
    | none =>
     simp only[Option.isSome_none] at q3;have FIN:Hid (PostMD w wb kb bv cells.length Z (.returned (.tuple #[])) wr):=⟨rfl,by rw[<-HA.out,musDL_none];exact W1,K1⟩
     clear HA hlk W1 K1 N1 S1 E1 V1;go_wp2
     go_end0
     exact FIN.out
    | some s' =>
     simp only[Option.isSome_some] at q3;have hsz:e.kids.size=d.size+(kks.size+kr.size+1):=by rw[hk.out,Fs.size_app];rfl
     have hfk:FitN ⟨kk,kn,km,ka,kks⟩:=hf.kid (d:=d) (r:=kr) hk.out;obtain⟨b,off,ak,ck,hao,lb1,-,x0,x1,x2,x3,SK⟩:=SlN.kidQ (by rw[<-hk.out];exact S1);subst hao;have c1:=must_d IH ⟨kk,kn,km,ka,kks⟩ ak ck wb kb bv cells ar wi 3 (some s') wr (fun _=>by show kks.size<N;omega) hfk hwi har hne (fun _=>by decide) W1 N1 SK;rw[exN_out] at c1;simp only at c1;have HA2:Hid (musDL cells kr (musD cells (some s') 3 ⟨kk,kn,km,ka,kks⟩ ar wi) 3 ar wi=Z):=HA.out;have hk2:Hid (e.kids=(d.snoc ⟨kk,kn,km,ka,kks⟩).app kr):=by show e.kids=_;rw[hk.out];unfold Fs.snoc;rw[Fs.app_assoc];rfl
     have hl2:(d.len:Int)+1=((d.snoc ⟨kk,kn,km,ka,kks⟩).len:Nat):=by rw[Fs.len_snoc];rfl
     generalize musD cells (some s') 3 ⟨kk,kn,km,ka,kks⟩ ar wi=st2 at *;clear HA hlk hsz hfk SK hk W1 V1;go_wp2_with fail;refine c1.mono ?_;rintro x w2 ⟨rfl,W2,k2⟩;have E2:=(k2.block bx (lt_of_block E1) hb1 hb2).trans E1;have N2:=N1.kp k2;have S2:=S1.kp k2;have K2:=K1.trans k2;clear c1 x0 x1 x2 x3 p0 p1 p2 p3 pf q0 q1 q2 q3 qf k2 E1 K1 N1 S1;go_wp2;go_roundw
     case rel=>exact⟨_,kr,st2,hk2,by rw[<-hl2],HA2,W2,E2,N2,S2,K2⟩
     case measure=>simp[intOf];omega
theorem Kp.cell {a b:Nat}{w w':World}(h:Kp a b w w'){g:Nat}(hg:g<w.heap.size)(ha:g≠a)(hb:g≠b)(j:Nat):w'.cell? ⟨g,j,none⟩=w.cell? ⟨g,j,none⟩:=World.cell?_of_block (a:=⟨g,j,none⟩) (h.block g hg ha hb)
theorem postKD {w w':World}{wb kb:Nat}{bv:Value}{nc:Nat}{st:Dg}{g:Int}{r:Option (Rg × Int)}(hc:r=anD st g)(W:WD w' wb kb bv nc st)(K:Kp wb kb w w'):PostKD w wb kb bv nc r (.returned (.int .i64 g)) w':=by
 subst hc;cases st with
 | none=>exact⟨⟨g,rfl,fun s k h=>by cases h⟩,W,K⟩
 | some s=>exact⟨⟨g,rfl,fun s k h=>by injection h with h;injection h⟩,W,K⟩
theorem quant_d {N:Nat}(IH:KindD N)(e t x:Ex)(ao:Option Addr)(cap wb kb:Nat)(bv:Value)(cells:List Int)(ar wi:Nat)(s:Rg)(w:World)(hk:e.kids=Fs.ex t (Fs.ex x .nil))(hN:e.kids.size<=N)(hf:FitN e)(hwi:wi<=4)(har:ar<=wi)(hne:wb≠kb)(h:WD w wb kb bv cells.length (some s))(hn:Inw w (Nf2 wb kb) bv cells)(S:SlN w (Nf2 wb kb) e.kids ao) :
  Calls Tryd.prog 46 #[.pointer (some ⟨wb,0,none⟩),exN e ao cap,.int .i64 (ar:Nat),.int .i64 (wi:Nat)] w (PostKD w wb kb bv cells.length (anD (musD cells (musD cells (some s) 4 t ar (wi+1)) (bodyT e.n) x (ar+1) (wi+1)) (wholeT e.n))):=by
 have hl:e.kids.len=2:=by rw[hk];rfl
 have HK:Hid (e.kids=Fs.ex t (Fs.ex x .nil)):=hk;have hsz:e.kids.size=t.kids.size+(x.kids.size+0+1)+1:=by rw[hk];rfl
 have hft:FitN t:=hf.kid (d:=.nil) hk;have hfx:FitN x:=hf.kid (d:=Fs.ex t .nil) hk;have HL:Hid (e.kids.len=2):=hl;clear hk hl;have B0:Below w.heap.size w (w.alloc (.cells #[.int .i64 e.k,.int .i64 e.n,stv e.nm,.slice ao 2 cap] 24)):=(Below.refl _ w).alloc (Nat.le_refl _) _;have E0:(w.alloc (.cells #[.int .i64 e.k,.int .i64 e.n,stv e.nm,.slice ao 2 cap] 24)).heap[w.heap.size]?=some (.cells #[.int .i64 e.k,.int .i64 e.n,stv e.nm,.slice ao 2 cap] 24):=heap_alloc_new w _;have W0:=h.below B0;have S0:=S.belowP B0;have N0:=hn.below B0;have hwb:=h.lt;have hkb:=h.ltk;clear h S hn;rw[exN_out,HL.out];go_enter Tryd.func46,Tryd.ntmps46;go_upto_region 1 with fail;generalize w.alloc (.cells #[.int .i64 e.k,.int .i64 e.n,stv e.nm,.slice ao 2 cap] 24)=w0 at *;have KK:Kp wb kb w w0:=Kp.ofBelow B0;obtain⟨bx,hbx⟩:∃bx,bx=w.heap.size:=⟨_,rfl⟩
 rw[<-hbx] at E0 ⊢;have hb1:bx≠wb:=by omega
 have hb2:bx≠kb:=by omega
 clear hbx hwb hkb B0;obtain⟨p0,p1,p2,p3,pf⟩:=box4 E0;by_cases h4:wi=4
 ·subst h4;have HR:Hid (PostKD w wb kb bv cells.length (anD (musD cells (musD cells (some s) 4 t ar (4+1)) (bodyT e.n) x (ar+1) (4+1)) (wholeT e.n)) (.returned (.int .i64 0)) (w0.setCell ⟨wb,3,none⟩ (.bool false))):=by
   rw[musD_deep (by omega)];obtain⟨V0,-,arr,V1,-⟩:=W0;exact⟨⟨0,rfl,fun s k h=>by cases h⟩,⟨by simpa using lt_of_block V1,_,_,(set4d V0 (.bool false)).2⟩,KK.set _ _ (.inr (.inl rfl))⟩
  obtain⟨V0,-,-⟩:=W0;obtain⟨q0,q1,q2,q3,qf⟩:=box4 V0;clear S0 N0 KK;go_wp2;exact bodyPost_ret (v:=.int .i64 0) (by simp[results,Tryd.results46,go_sem]) rfl HR.out
 ·have hwb:((wi:Int)==4)=false:=by simp;omega
  have S0x:SlN w0 (Nf2 wb kb) (Fs.nil.app (Fs.ex t (Fs.ex x .nil))) ao:=by rw[HK.out] at S0;exact S0
  obtain⟨gb,off,ak,ck,hao,y0,y1,y2,y3,SK⟩:=SlN.kidP S0x 0 rfl;subst hao;simp only[Nat.zero_mul,Nat.add_zero] at y0 y1 y2 y3;have c1:=set_d IH t ak ck wb kb bv cells ar (wi+1) s w0 (by omega) hft (by omega) (by omega) hne W0 N0 SK;have hcast:((wi+1:Nat):Int)=(wi:Int)+1:=rfl;have hcast2:((ar+1:Nat):Int)=(ar:Int)+1:=rfl;rw[exN_out,hcast] at c1;go_wp2_with fail;refine c1.mono ?_;rintro z wc ⟨rfl,W1,K1⟩;have E1:=(K1.block _ (lt_of_block E0) hb1 hb2).trans E0;have S1:SlN wc (Nf2 wb kb) ((Fs.ex t .nil).app (Fs.ex x .nil)) (some ⟨gb,off,none⟩):=by
   have:=S0.kp K1
   rw[HK.out] at this;exact this
  have N1:=N0.kp K1;have KW:=KK.trans K1;clear c1 p0 p1 p2 p3 pf y0 y1 y2 y3 SK S0x S0 W0 N0 E0 K1 KK;obtain⟨p0,p1,p2,p3,pf⟩:=box4 E1;have hbl:=lt_of_block E1;obtain⟨gb',off',ak,ck,hao,hgl,hgp,x0,x1,x2,x3,SK⟩:=SlN.kidQ (x:=Fs.ex t .nil) (r:=.nil) (ks:=x.kids) (k:=x.k) (n:=x.n) (nm:=x.nm) (a:=x.a) S1;injection hao with hao
  injection hao with h1 h2
  subst h1;subst h2;have hlt1:(Fs.ex t .nil).len=1:=rfl;simp only[hlt1,Nat.one_mul] at x0 x1 x2 x3;have bdT:Below wc.heap.size wc wc.drew:=⟨rfl,rfl,rfl,Nat.le_refl _,fun _ _=>rfl⟩
  have hbo4:bodyT e.n≠4:=by unfold bodyT;split<;>omega
  have c3:=must_d IH x ak ck wb kb bv cells (ar+1) (wi+1) (bodyT e.n) (musD cells (some s) 4 t ar (wi+1)) wc.drew (fun _=>by omega) hfx (by omega) (by omega) hne (fun _=>hbo4) (W1.below bdT) (N1.below bdT) (SK.belowP bdT);rw[exN_out,hcast,hcast2] at c3;have c3:=fun (a1 a2:Int) (h1:a1=(ar:Int)+1) (h2:a2=(wi:Int)+1)=>(by rw[h1,h2];exact c3:Calls Tryd.prog 44 #[.pointer (some ⟨wb,0,none⟩),.agg #[.int .i64 x.k,.int .i64 x.n,stv x.nm,.slice ak x.kids.len ck],.int .i64 a1,.int .i64 a2,.int .i64 (bodyT e.n)] wc.drew (PostMD wc.drew wb kb bv cells.length (musD cells (musD cells (some s) 4 t ar (wi+1)) (bodyT e.n) x (ar+1) (wi+1))));have hbq:=fun wy=>body_q e.n wy;have hwq:=fun wy=>whole_q e.n wy;obtain⟨bo,hbo'⟩:∃bo,bo=bodyT e.n:=⟨_,rfl⟩
  rw[<-hbo'] at c3 hbq ⊢;have hrb:Hid (bodyT e.n=bo):=hbo'.symm;obtain⟨st2,hst2⟩:∃st2,st2=musD cells (musD cells (some s) 4 t ar (wi+1)) bo x (ar+1) (wi+1):=⟨_,rfl⟩
  rw[<-hst2] at c3;have HST:Hid (anD (musD cells (musD cells (some s) 4 t ar (wi+1)) bo x (ar+1) (wi+1)) (wholeT e.n)=anD st2 (wholeT e.n)):=by show _=_;rw[hst2]
  clear hst2 hbo' hbo4 W1 N1 SK S1 IH HK HL hsz hft hfx hf hN h4 hwb hcast hcast2 hlt1 p0 p2 pf;go_upto_region 5 with fail;go_cut [] (fun wx=>WD wx wb kb bv cells.length st2/\Kp wb kb wc wx)
  case first =>
   go_wp2_with fail;go_region_held3 (fun wx=>wx.cell? ⟨bx,1,none⟩=some (.int .i64 e.n)/\wx.cell? ⟨bx,3,none⟩=some (.slice (some ⟨gb,off,none⟩) 2 cap)/\wx.cell? ⟨gb,off+4,none⟩=some (.int .i64 x.k)/\wx.cell? ⟨gb,off+4+1,none⟩=some (.int .i64 x.n)/\wx.cell? ⟨gb,off+4+2,none⟩=some (stv x.nm)/\wx.cell? ⟨gb,off+4+3,none⟩=some (.slice ak x.kids.len ck))
    (first|exact KA|go_keep)
    (first
     | (go_at_call 67;refine(hbq _).mono ?_;rintro z w3 ⟨rfl,rfl⟩)
     | (go_at_call 44;refine(c3 _ _ ?_ ?_).mono ?_;(rw[IntKind.wrap_i64];omega);(rw[IntKind.wrap_i64];omega);rintro z w3 ⟨rfl,W3,K3⟩;have KA:w3.cell? ⟨bx,1,none⟩=some (.int .i64 e.n)/\w3.cell? ⟨bx,3,none⟩=some (.slice (some ⟨gb,off,none⟩) 2 cap)/\w3.cell? ⟨gb,off+4,none⟩=some (.int .i64 x.k)/\w3.cell? ⟨gb,off+4+1,none⟩=some (.int .i64 x.n)/\w3.cell? ⟨gb,off+4+2,none⟩=some (stv x.nm)/\w3.cell? ⟨gb,off+4+3,none⟩=some (.slice ak x.kids.len ck):=⟨(K3.cell hbl hb1 hb2 _).trans p1,(K3.cell hbl hb1 hb2 _).trans p3,(K3.cell hgl hgp.1 hgp.2 _).trans x0,(K3.cell hgl hgp.1 hgp.2 _).trans x1,(K3.cell hgl hgp.1 hgp.2 _).trans x2,(K3.cell hgl hgp.1 hgp.2 _).trans x3⟩))
   all_goals (
    have HZ:Hid (WD w3 wb kb bv cells.length st2/\Kp wb kb wc w3):=⟨W3,Kp.bel bdT K3⟩
    clear KA W3 K3 c3 hbq;go_wp2;go_meet;exact HZ.out)
  case rest =>
   obtain⟨W3,K3⟩:=hcut;have E3:=(K3.block _ hbl hb1 hb2).trans E1;obtain⟨p0,p1,p2,p3,pf⟩:=box4 E3;have HR:Hid (PostKD w wb kb bv cells.length (anD (musD cells (musD cells (some s) 4 t ar (wi+1)) bo x (ar+1) (wi+1)) (wholeT e.n)) (.returned (.int .i64 (wholeT e.n))) wc):=postKD HST.out W3 (KW.trans K3);clear W3 K3 KW HST E1 E3;generalize wholeT e.n=wh at *;go_wp2_with (go_at_call 68;refine(hwq _).mono ?_;rintro z w4 ⟨rfl,rfl⟩);go_wp2;exact bodyPost_ret (v:=.int .i64 wh) (by simp[results,Tryd.results46,go_sem]) rfl (by rw[hrb.out];exact HR.out)
open Go.ChangeShapes Go.WideShapes Go.ChangeAt Go.RowKit Go.Maps
def plV (e:Ex)(ao:Option Addr)(cap:Nat)(cv:Value):Value:=.agg #[.int .i64 e.k,.int .i64 e.n,stv e.nm,.slice ao e.kids.len cap,cv]
theorem plV_out (e:Ex)(ao:Option Addr)(cap:Nat)(cv:Value):plV e ao cap cv=.agg #[.int .i64 e.k,.int .i64 e.n,stv e.nm,.slice ao e.kids.len cap,cv]:=rfl
theorem any_nl (cells:List Int):cells.any (fun c=>decide (c<0)||decide (4<c))=cells.any nlB:=rfl
theorem nl_false {cells:List Int}(h:cells.any nlB=false):∀ c,c ∈ cells->0<=c/\c<=4:=by
 intro c hc;rw[List.any_eq_false] at h
 have:=h c hc
 simp[nlB] at this;omega
theorem kindP_nl {cells:List Int}{e:Ex}(h:cells.any nlB=true):kindP cells e=0:=by
 unfold kindP;rw[if_pos (.inr (by rw[any_nl];exact h))]
abbrev nil4e:Array Value:=#[.slice none 0 0,.slice none 0 0,.slice none 0 0,.slice none 0 0]
theorem cells5e {w:World}{b:Nat}{x0 x1 x2 x3 x4:Value}{t:TypeId}(h:w.heap[b]?=some (.cells #[x0,x1,x2,x3,x4] t)):w.cell? ⟨b,0,none⟩=some x0/\w.cell? ⟨b,1,none⟩=some x1/\w.cell? ⟨b,2,none⟩=some x2/\w.cell? ⟨b,3,none⟩=some x3/\w.cell? ⟨b,4,none⟩=some x4:=by
 refine⟨?_,?_,?_,?_,?_⟩<;>simp[World.cell?,h]
theorem set4e {w:World}{b:Nat}{x0 x1 x2 x3:Value}{t:TypeId}(y0 y1 y2 y3:Value)(h:w.heap[b]?=some (.cells #[x0,x1,x2,x3] t)):((((w.setCell ⟨b,0,none⟩ y0).setCell ⟨b,1,none⟩ y1).setCell ⟨b,2,none⟩ y2).setCell ⟨b,3,none⟩ y3).heap[b]?=some (.cells #[y0,y1,y2,y3] t) :=
 heap_setCell_same _ b 3 _ _ _ (heap_setCell_same _ b 2 _ _ _ (heap_setCell_same _ b 1 _ _ _ (heap_setCell_same w b 0 _ _ _ h)))
end Go.Proofs.YtejnhibajmncaaaDoor
