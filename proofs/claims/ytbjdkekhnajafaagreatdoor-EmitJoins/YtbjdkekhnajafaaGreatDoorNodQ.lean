import Derived.Test.YtbjdkekhnajafaaGreatDoorNodH
set_option maxRecDepth 100000
set_option maxHeartbeats 8000000
namespace Go.Proofs.YtbjdkekhnajafaaGreatDoor
open Go.ChangeShapes Go.WideShapes Go.ChangeAt Go.RowKit
set_option linter.unusedVariables false
set_option linter.unusedSimpArgs false
def SameNodeOk (N:Nat):Prop:=∀ (e e2:Ex) (ao ao2:Option Addr) (cap cap2:Nat) (w:World),e.kids.size<N->e.kids.len<=1000000000->e.kids.short->e2.kids.len<=1000000000->e2.kids.short->SnA w e.kids ao->SnA w e2.kids ao2 ->
 Calls Tryz.prog 174 #[exN e ao cap,exN e2 ao2 cap2] w fun x w'=>x=.returned (.bool (sameE e e2))/\Below w.heap.size w w'
theorem samenode_step {N:Nat}(IH:SameNodeOk N):SameNodeOk (N+1):=by
 intro e e2 ao ao2 cap cap2 w hN hlen hsh hlen2 hsh2 S S2;obtain⟨W,hW⟩:∃W,W=sameE e e2:=⟨_,rfl⟩
 rw[<-hW];have HW:Hid (W=sameE e e2):=hW;clear hW;have B0:Below w.heap.size w ((w.alloc (.cells #[.int .i64 e.k,.int .i64 e.n,stv e.nm,.slice ao e.kids.len cap] 34)).alloc (.cells #[.int .i64 e2.k,.int .i64 e2.n,stv e2.nm,.slice ao2 e2.kids.len cap2] 34)):=((Below.refl _ w).alloc (Nat.le_refl _) _).alloc (by simp) _;have E0:((w.alloc (.cells #[.int .i64 e.k,.int .i64 e.n,stv e.nm,.slice ao e.kids.len cap] 34)).alloc (.cells #[.int .i64 e2.k,.int .i64 e2.n,stv e2.nm,.slice ao2 e2.kids.len cap2] 34)).heap[w.heap.size]?=some (.cells #[.int .i64 e.k,.int .i64 e.n,stv e.nm,.slice ao e.kids.len cap] 34):=(Below.heap_alloc _ _ _ (by simp)).trans (heap_alloc_new w _);have Y0:((w.alloc (.cells #[.int .i64 e.k,.int .i64 e.n,stv e.nm,.slice ao e.kids.len cap] 34)).alloc (.cells #[.int .i64 e2.k,.int .i64 e2.n,stv e2.nm,.slice ao2 e2.kids.len cap2] 34)).heap[w.heap.size+1]?=some (.cells #[.int .i64 e2.k,.int .i64 e2.n,stv e2.nm,.slice ao2 e2.kids.len cap2] 34):=by
  have:=heap_alloc_new (w.alloc (.cells #[.int .i64 e.k,.int .i64 e.n,stv e.nm,.slice ao e.kids.len cap] 34)) (.cells #[.int .i64 e2.k,.int .i64 e2.n,stv e2.nm,.slice ao2 e2.kids.len cap2] 34)
  simpa using this
 rw[exN_out,exN_out];go_enter Tryz.func174,Tryz.ntmps174;go_upto_region 1 with fail;generalize (w.alloc (.cells #[.int .i64 e.k,.int .i64 e.n,stv e.nm,.slice ao e.kids.len cap] 34)).alloc (.cells #[.int .i64 e2.k,.int .i64 e2.n,stv e2.nm,.slice ao2 e2.kids.len cap2] 34)=w0 at *;obtain⟨bx,hbx⟩:∃bx,bx=w.heap.size:=⟨_,rfl⟩
 rw[<-hbx] at E0 Y0 B0 ⊢;have HB:Hid (bx=w.heap.size):=hbx;clear hbx;obtain⟨p0,p1,p2,p3,pf⟩:=box4 E0;obtain⟨q0,q1,q2,q3,qf⟩:=box4 Y0;by_cases h1:e.k=e2.k
 ·by_cases h2:e.n=e2.n
  ·by_cases h3:e.nm=e2.nm
   ·by_cases h4:e.kids.len=e2.kids.len
    ·have h1b:(e.k != e2.k)=false:=by simp[h1]
     have h2b:(e.n != e2.n)=false:=by simp[h2]
     have h3b:(e.nm==e2.nm)=true:=by simp[h3]
     have h4b:((e.kids.len:Int) != (e2.kids.len:Int))=false:=by rw[h4];simp
     have h1c:(e.k==e2.k)=true:=by simp[h1]
     have h2c:(e.n==e2.n)=true:=by simp[h2]
     have h4c:((e.kids.len:Int)==(e2.kids.len:Int))=true:=by rw[h4];simp
     have HF:Hid (W=sameF e.kids e2.kids):=by show W=_;rw[HW.out];simp[sameE,h1,h2,h3]
     have H4:Hid (e.kids.len=e2.kids.len):=h4;clear HW h1 h2 h3 h4;go_wp2;go_loopw [5] (fun v wr=>∃(done r d2 r2:Fs),Hid (e.kids=done.app r)/\Hid (e2.kids=d2.app r2)/\Hid (d2.len=done.len)/\v=.int .i64 (done.len:Nat)/\Hid (sameF r r2=W)/\wr.heap[bx]?=some (.cells #[.int .i64 e.k,.int .i64 e.n,stv e.nm,.slice ao e.kids.len cap] 34)/\wr.heap[bx+1]?=some (.cells #[.int .i64 e2.k,.int .i64 e2.n,stv e2.nm,.slice ao2 e2.kids.len cap2] 34)/\Below bx w wr) (fun v _=>e.kids.len-(intOf v).toNat)
     case atStart=>exact⟨.nil,e.kids,.nil,e2.kids,rfl,rfl,rfl,by show _=Value.int .i64 ((0:Nat):Int);rfl,HF.out.symm,E0,Y0,B0⟩
     case round =>
      clear E0 Y0 B0 p0 p1 p2 p3 pf q0 q1 q2 q3 qf HF h1b h2b h3b h4b h1c h2c h4c;obtain⟨done,r,d2,r2,hk,hk2,hd,rfl,HA,E1,Y1,B1⟩:=hrel;have hlf:e.kids.len=done.len+r.len:=by rw[hk.out,Fs.len_app]
      have hlg:e2.kids.len=d2.len+r2.len:=by rw[hk2.out,Fs.len_app]
      have HRR:Hid (r.len=r2.len):=by show _=_;have:=H4.out;have:=hd.out;omega
      clear hlg;obtain⟨p0,p1,p2,p3,pf⟩:=box4 E1;obtain⟨q0,q1,q2,q3,qf⟩:=box4 Y1;cases r using Fs.on with
      | nil =>
       have hl0:¬(done.len:Int)<(e.kids.len:Int):=by simp only[Fs.len] at hlf;omega
       have FIN:Hid (W=true):=by
        show W=true;rw[<-HA.out];cases r2 using Fs.on with
        | nil=>rfl
        | cons k n nm a ks r=>have:=HRR.out;simp only[Fs.len] at this;omega
       clear HA hlf HRR;go_wp2;go_ret;rw[FIN.out];exact⟨rfl,by rw[<-HB.out];exact B1⟩
      | cons kk kn km ka kks kr =>
       cases r2 using Fs.on with
       | nil=>have:=HRR.out;simp only[Fs.len] at this;omega
       | cons jk jn jm ja jks jr =>
       have hl0:(done.len:Int)<(e.kids.len:Int):=by simp only[Fs.len] at hlf;omega
       have hl1:done.len<e.kids.len:=by omega
       have hl2:done.len<e2.kids.len:=by have:=H4.out;omega
       have hl3:(done.len:Int)<(e2.kids.len:Int):=by omega
       have hsz:e.kids.size=done.size+(kks.size+kr.size+1):=by rw[hk.out,Fs.size_app];rfl
       have hsk:(Fs.cons kk kn km ka kks kr).short:=Fs.app_short (by rw[<-hk.out];exact hsh);have hsj:(Fs.cons jk jn jm ja jks jr).short:=Fs.app_short (by rw[<-hk2.out];exact hsh2);obtain⟨b,off,ak,ck,hao,lb1,-,x0,x1,x2,x3,SK⟩:=SlN.kidQ (by rw[<-hk.out];exact SnA.below S (by rw[<-HB.out];exact B1));obtain⟨b',off',aj,cj,hao',lb2,-,y0,y1,y2,y3,TK⟩:=SlN.kidQ (by rw[<-hk2.out];exact SnA.below S2 (by rw[<-HB.out];exact B1));subst hao hao';rw[hd.out] at y0 y1 y2 y3;have hc:=IH ⟨kk,kn,km,ka,kks⟩ ⟨jk,jn,jm,ja,jks⟩ ak aj ck cj wr.drew (by show kks.size<N;omega) hsk.2.1 hsk.2.2.1 hsj.2.1 hsj.2.2.1 (SnA.below SK (Below.refl _ wr).drew) (SnA.below TK (Below.refl _ wr).drew);rw[exN_out,exN_out] at hc;simp only at hc;have HA2:Hid ((sameE ⟨kk,kn,km,ka,kks⟩ ⟨jk,jn,jm,ja,jks⟩&&sameF kr jr)=W):=HA;have hf2:Hid (e.kids=(done.snoc ⟨kk,kn,km,ka,kks⟩).app kr):=by show e.kids=_;rw[hk.out];unfold Fs.snoc;rw[Fs.app_assoc];rfl
       have hg2:Hid (e2.kids=(d2.snoc ⟨jk,jn,jm,ja,jks⟩).app jr):=by show e2.kids=_;rw[hk2.out];unfold Fs.snoc;rw[Fs.app_assoc];rfl
       have hd2:Hid ((d2.snoc ⟨jk,jn,jm,ja,jks⟩).len=(done.snoc ⟨kk,kn,km,ka,kks⟩).len):=by show _=_;rw[Fs.len_snoc,Fs.len_snoc,hd.out]
       have hl4:(done.len:Int)+1=((done.snoc ⟨kk,kn,km,ka,kks⟩).len:Nat):=by rw[Fs.len_snoc];rfl
       generalize sameE ⟨kk,kn,km,ka,kks⟩ ⟨jk,jn,jm,ja,jks⟩=cc at *;clear hlf hsz hsk hsj SK TK HA hk hk2 hd;go_wp2;have k0:wr.cell? ⟨bx,3,none⟩=some (.slice (some ⟨b,off,none⟩) e.kids.len cap)/\wr.cell? ⟨bx+1,3,none⟩=some (.slice (some ⟨b',off',none⟩) e2.kids.len cap2)/\wr.cell? ⟨b,off+done.len*4,none⟩=some (.int .i64 kk)/\wr.cell? ⟨b,off+done.len*4+1,none⟩=some (.int .i64 kn)/\wr.cell? ⟨b,off+done.len*4+2,none⟩=some (stv km)/\wr.cell? ⟨b,off+done.len*4+3,none⟩=some (.slice ak kks.len ck)/\wr.cell? ⟨b',off'+done.len*4,none⟩=some (.int .i64 jk)/\wr.cell? ⟨b',off'+done.len*4+1,none⟩=some (.int .i64 jn)/\wr.cell? ⟨b',off'+done.len*4+2,none⟩=some (stv jm)/\wr.cell? ⟨b',off'+done.len*4+3,none⟩=some (.slice aj jks.len cj):=⟨p3,q3,x0,x1,x2,x3,y0,y1,y2,y3⟩
       have k1:wr.drew.cell? ⟨bx,3,none⟩=some (.slice (some ⟨b,off,none⟩) e.kids.len cap)/\wr.drew.cell? ⟨bx+1,3,none⟩=some (.slice (some ⟨b',off',none⟩) e2.kids.len cap2)/\wr.drew.cell? ⟨b,off+done.len*4,none⟩=some (.int .i64 kk)/\wr.drew.cell? ⟨b,off+done.len*4+1,none⟩=some (.int .i64 kn)/\wr.drew.cell? ⟨b,off+done.len*4+2,none⟩=some (stv km)/\wr.drew.cell? ⟨b,off+done.len*4+3,none⟩=some (.slice ak kks.len ck)/\wr.drew.cell? ⟨b',off'+done.len*4,none⟩=some (.int .i64 jk)/\wr.drew.cell? ⟨b',off'+done.len*4+1,none⟩=some (.int .i64 jn)/\wr.drew.cell? ⟨b',off'+done.len*4+2,none⟩=some (stv jm)/\wr.drew.cell? ⟨b',off'+done.len*4+3,none⟩=some (.slice aj jks.len cj):=k0;have lb:bx+1<wr.drew.heap.size:=lt_of_block Y1;go_region_held (fun wx=>wx.cell? ⟨bx,3,none⟩=some (.slice (some ⟨b,off,none⟩) e.kids.len cap)/\wx.cell? ⟨bx+1,3,none⟩=some (.slice (some ⟨b',off',none⟩) e2.kids.len cap2)/\wx.cell? ⟨b,off+done.len*4,none⟩=some (.int .i64 kk)/\wx.cell? ⟨b,off+done.len*4+1,none⟩=some (.int .i64 kn)/\wx.cell? ⟨b,off+done.len*4+2,none⟩=some (stv km)/\wx.cell? ⟨b,off+done.len*4+3,none⟩=some (.slice ak kks.len ck)/\wx.cell? ⟨b',off'+done.len*4,none⟩=some (.int .i64 jk)/\wx.cell? ⟨b',off'+done.len*4+1,none⟩=some (.int .i64 jn)/\wx.cell? ⟨b',off'+done.len*4+2,none⟩=some (stv jm)/\wx.cell? ⟨b',off'+done.len*4+3,none⟩=some (.slice aj jks.len cj)) (first|(with_reducible exact k2)|(with_reducible exact k1)|(with_reducible exact k0)) ((go_at_call 174;refine hc.mono ?_;rintro x w2 ⟨rfl,b2⟩;have k2:w2.cell? ⟨bx,3,none⟩=some (.slice (some ⟨b,off,none⟩) e.kids.len cap)/\w2.cell? ⟨bx+1,3,none⟩=some (.slice (some ⟨b',off',none⟩) e2.kids.len cap2)/\w2.cell? ⟨b,off+done.len*4,none⟩=some (.int .i64 kk)/\w2.cell? ⟨b,off+done.len*4+1,none⟩=some (.int .i64 kn)/\w2.cell? ⟨b,off+done.len*4+2,none⟩=some (stv km)/\w2.cell? ⟨b,off+done.len*4+3,none⟩=some (.slice ak kks.len ck)/\w2.cell? ⟨b',off'+done.len*4,none⟩=some (.int .i64 jk)/\w2.cell? ⟨b',off'+done.len*4+1,none⟩=some (.int .i64 jn)/\w2.cell? ⟨b',off'+done.len*4+2,none⟩=some (stv jm)/\w2.cell? ⟨b',off'+done.len*4+3,none⟩=some (.slice aj jks.len cj):=⟨(b2.cell (p:=⟨bx,3,none⟩) (Nat.lt_of_succ_lt lb)).trans p3,(b2.cell (p:=⟨bx+1,3,none⟩) lb).trans q3,(b2.cell (p:=⟨b,off+done.len*4,none⟩) lb1).trans x0,(b2.cell (p:=⟨b,off+done.len*4+1,none⟩) lb1).trans x1,(b2.cell (p:=⟨b,off+done.len*4+2,none⟩) lb1).trans x2,(b2.cell (p:=⟨b,off+done.len*4+3,none⟩) lb1).trans x3,(b2.cell (p:=⟨b',off'+done.len*4,none⟩) lb2).trans y0,(b2.cell (p:=⟨b',off'+done.len*4+1,none⟩) lb2).trans y1,(b2.cell (p:=⟨b',off'+done.len*4+2,none⟩) lb2).trans y2,(b2.cell (p:=⟨b',off'+done.len*4+3,none⟩) lb2).trans y3⟩));have B2:Below bx w w2:=(B1.drew).trans (b2.mono (by have:=HB.out;have:=B1.size;show bx<=wr.heap.size;omega));have E2:=(b2.block bx (Nat.lt_of_succ_lt lb)).trans E1;have Y2:=(b2.block (bx+1) lb).trans Y1;clear k0 k1 k2 p0 p1 p2 p3 pf q0 q1 q2 q3 qf x0 x1 x2 x3 y0 y1 y2 y3 hc b2 E1 Y1 B1;cases cc with
       | false =>
        have FIN:Hid (W=false):=by show W=_;rw[<-HA2.out];rfl
        clear HA2;go_wp2;go_ret;rw[FIN.out];exact⟨rfl,by rw[<-HB.out];exact B2⟩
       | true =>
        have HA3:Hid (sameF kr jr=W):=by show _=W;rw[<-HA2.out];rfl
        clear HA2;go_wp2;go_roundw
        case rel=>exact⟨_,kr,_,jr,hf2,hg2,hd2,by rw[<-hl4],HA3,E2,Y2,B2⟩
        case measure=>simp[intOf];omega
    ·have h1b:(e.k != e2.k)=false:=by simp[h1]
     have h2b:(e.n != e2.n)=false:=by simp[h2]
     have h3b:(e.nm==e2.nm)=true:=by simp[h3]
     have h1c:(e.k==e2.k)=true:=by simp[h1]
     have h2c:(e.n==e2.n)=true:=by simp[h2]
     have h4b:((e.kids.len:Int) != (e2.kids.len:Int))=true:=by simp;omega
     have h4c:((e.kids.len:Int)==(e2.kids.len:Int))=false:=by simp;omega
     have FIN:Hid (W=false):=by show W=_;rw[HW.out];simp[sameE,sameF_len _ _ h4]
     clear HW h1 h2 h3 h4;go_wp2;go_ret;rw[FIN.out];exact⟨rfl,by rw[<-HB.out];exact B0⟩
   ·have h1b:(e.k != e2.k)=false:=by simp[h1]
    have h2b:(e.n != e2.n)=false:=by simp[h2]
    have h1c:(e.k==e2.k)=true:=by simp[h1]
    have h2c:(e.n==e2.n)=true:=by simp[h2]
    have h3b:(e.nm==e2.nm)=false:=by simpa using h3
    have FIN:Hid (W=false):=by show W=_;rw[HW.out];simp[sameE,h3]
    clear HW h1 h2 h3;go_wp2;go_ret;rw[FIN.out];exact⟨rfl,by rw[<-HB.out];exact B0⟩
  ·have h1b:(e.k != e2.k)=false:=by simp[h1]
   have h1c:(e.k==e2.k)=true:=by simp[h1]
   have h2b:(e.n != e2.n)=true:=by simpa using h2
   have h2c:(e.n==e2.n)=false:=by simpa using h2
   have FIN:Hid (W=false):=by show W=_;rw[HW.out];simp[sameE,h2]
   clear HW h1 h2;go_wp2;go_ret;rw[FIN.out];exact⟨rfl,by rw[<-HB.out];exact B0⟩
 ·have h1b:(e.k != e2.k)=true:=by simpa using h1
  have h1c:(e.k==e2.k)=false:=by simpa using h1
  have FIN:Hid (W=false):=by show W=_;rw[HW.out];simp[sameE,h1]
  clear HW h1;go_wp2;go_ret;rw[FIN.out];exact⟨rfl,by rw[<-HB.out];exact B0⟩
theorem samenode_ok:∀ N,SameNodeOk N
 | 0=>fun e e2 ao ao2 cap cap2 w h=>absurd h (Nat.not_lt_zero _)
 | N+1=>samenode_step (samenode_ok N)
theorem sameE_self (a:Ex):sameE a a=true:=by simp[sameE,sameF_self]
def SameQOk (N:Nat):Prop:=∀ (e e2:Ex) (ao ao2:Option Addr) (cap cap2:Nat) (w:World),e.kids.size<N->e.kids.len<=1000000000->e.kids.short->e2.kids.len<=1000000000->e2.kids.short->SnA w e.kids ao->SnA w e2.kids ao2 ->
 Calls Tryz.prog 266 #[exN e ao cap,exN e2 ao2 cap2] w fun x w'=>x=.returned (.bool (sameE e e2))/\Below w.heap.size w w'
def EqQOk (N:Nat):Prop:=∀ (f g:Fs) (ao ao2:Option Addr) (cap cap2:Nat) (w:World),f.size<=N->f.len<=1000000000->f.short->g.len<=1000000000->g.short->SnA w f ao->SnA w g ao2 ->
 Calls Tryz.prog 289 #[.slice ao f.len cap,.slice ao2 g.len cap2,.func (.func 266) #[] #[]] w fun x w'=>x=.returned (.bool (sameF f g))/\Below w.heap.size w w'
theorem eqn_of {N:Nat}(H:SameQOk N):EqQOk N:=by
 intro f g ao ao2 cap cap2 w hN hlen hsh hlen2 hsh2 S S2;obtain⟨W,hW⟩:∃W,W=sameF f g:=⟨_,rfl⟩
 rw[<-hW];have HW:Hid (W=sameF f g):=hW;clear hW;go_enter Tryz.func289,Tryz.ntmps289;by_cases hl:f.len=g.len
 ·have hI:((f.len:Int) != (g.len:Int))=false:=by rw[hl];simp
  have hIe:((f.len:Int)==(g.len:Int))=true:=by rw[hl];simp
  have HL:Hid (f.len=g.len):=hl;clear hl;go_wp2;go_loopw [17] (fun v wr=>∃(d r d2 r2:Fs),Hid (f=d.app r)/\Hid (g=d2.app r2)/\Hid (d2.len=d.len)/\v=.int .i64 (d.len:Nat)/\Hid (sameF r r2=W)/\Below w.heap.size w wr) (fun v _=>f.len-(intOf v).toNat)
  case atStart=>exact⟨.nil,f,.nil,g,rfl,rfl,rfl,by show _=Value.int .i64 ((0:Nat):Int);rfl,HW.out.symm,Below.refl _ _⟩
  case round =>
   obtain⟨d,r,d2,r2,hf,hg,hd,rfl,HA,B1⟩:=hrel;have hlf:f.len=d.len+r.len:=by rw[hf.out,Fs.len_app]
   have hlg:g.len=d2.len+r2.len:=by rw[hg.out,Fs.len_app]
   have hrr:r.len=r2.len:=by have:=HL.out;have:=hd.out;omega
   have HRR:Hid (r.len=r2.len):=hrr;clear HW hlg hrr hI hIe;cases r using Fs.on with
   | nil =>
    have hl0:¬(d.len:Int)<(f.len:Int):=by simp only[Fs.len] at hlf;omega
    have FIN:Hid (W=true):=by
     show W=true;rw[<-HA.out];cases r2 using Fs.on with
     | nil=>rfl
     | cons k n nm a ks r=>have:=HRR.out;simp only[Fs.len] at this;omega
    clear HA hlf HRR;go_wp2;go_ret;rw[FIN.out];exact⟨rfl,B1⟩
   | cons kk kn km ka kks kr =>
    cases r2 using Fs.on with
    | nil=>have:=HRR.out;simp only[Fs.len] at this;omega
    | cons jk jn jm ja jks jr =>
    have hl0:(d.len:Int)<(f.len:Int):=by simp only[Fs.len] at hlf;omega
    have hl1:d.len<f.len:=by omega
    have hl2:d.len<g.len:=by have:=HL.out;omega
    have hl3:(d.len:Int)<(g.len:Int):=by omega
    have hsz:f.size=d.size+(kks.size+kr.size+1):=by rw[hf.out,Fs.size_app];rfl
    have hsk:(Fs.cons kk kn km ka kks kr).short:=Fs.app_short (by rw[<-hf.out];exact hsh);have hsj:(Fs.cons jk jn jm ja jks jr).short:=Fs.app_short (by rw[<-hg.out];exact hsh2);obtain⟨b,off,ak,ck,hao,lb1,-,x0,x1,x2,x3,SK⟩:=SlN.kidQ (by rw[<-hf.out];exact SnA.below S B1);obtain⟨b',off',aj,cj,hao',lb2,-,y0,y1,y2,y3,TK⟩:=SlN.kidQ (by rw[<-hg.out];exact SnA.below S2 B1);subst hao hao';rw[hd.out] at y0 y1 y2 y3;have b2:Below wr.heap.size wr (wr.alloc (.cells #[.int .i64 kk,.int .i64 kn,stv km,.slice ak kks.len ck] 34)):=(Below.refl _ wr).alloc (Nat.le_refl _) _;have K2:(wr.alloc (.cells #[.int .i64 kk,.int .i64 kn,stv km,.slice ak kks.len ck] 34)).heap[wr.heap.size]?=some (.cells #[.int .i64 kk,.int .i64 kn,stv km,.slice ak kks.len ck] 34):=heap_alloc_new wr _;have B2:=B1.trans (b2.mono B1.size);have z0:=(b2.cell (p:=⟨b',off'+d.len*4,none⟩) lb2).trans y0;have z1:=(b2.cell (p:=⟨b',off'+d.len*4+1,none⟩) lb2).trans y1;have z2:=(b2.cell (p:=⟨b',off'+d.len*4+2,none⟩) lb2).trans y2;have z3:=(b2.cell (p:=⟨b',off'+d.len*4+3,none⟩) lb2).trans y3;have SK2:=SnA.below SK b2;have TK2:=SnA.below TK b2;clear y0 y1 y2 y3 hlf;go_upto_region 6 with fail;generalize wr.alloc (.cells #[.int .i64 kk,.int .i64 kn,stv km,.slice ak kks.len ck] 34)=w2 at *;generalize wr.heap.size=bk at *;clear x0 x1 x2 x3 b2 SK TK B1;have b3:Below w2.heap.size w2 (w2.alloc (.cells #[.int .i64 jk,.int .i64 jn,stv jm,.slice aj jks.len cj] 34)):=(Below.refl _ w2).alloc (Nat.le_refl _) _;have J3:(w2.alloc (.cells #[.int .i64 jk,.int .i64 jn,stv jm,.slice aj jks.len cj] 34)).heap[w2.heap.size]?=some (.cells #[.int .i64 jk,.int .i64 jn,stv jm,.slice aj jks.len cj] 34):=heap_alloc_new w2 _;have K3:=(b3.block _ (lt_of_block K2)).trans K2;have B3:=B2.trans (b3.mono B2.size);have SK3:=SnA.below SK2 b3;have TK3:=SnA.below TK2 b3;go_upto_region 7 with fail;generalize w2.alloc (.cells #[.int .i64 jk,.int .i64 jn,stv jm,.slice aj jks.len cj] 34)=w3 at *;generalize w2.heap.size=bj at *;clear z0 z1 z2 z3 b3 SK2 TK2 B2 K2;obtain⟨p0,p1,p2,p3,pf⟩:=box4 K3;obtain⟨q0,q1,q2,q3,qf⟩:=box4 J3;have c4:=H ⟨kk,kn,km,ka,kks⟩ ⟨jk,jn,jm,ja,jks⟩ ak aj ck cj w3 (by show kks.size<N;omega) hsk.2.1 hsk.2.2.1 hsj.2.1 hsj.2.2.1 SK3 TK3;rw[exN_out,exN_out] at c4;simp only at c4;have HA2:Hid ((sameE ⟨kk,kn,km,ka,kks⟩ ⟨jk,jn,jm,ja,jks⟩&&sameF kr jr)=W):=HA;have hf2:Hid (f=(d.snoc ⟨kk,kn,km,ka,kks⟩).app kr):=by show f=_;rw[hf.out];unfold Fs.snoc;rw[Fs.app_assoc];rfl
    have hg2:Hid (g=(d2.snoc ⟨jk,jn,jm,ja,jks⟩).app jr):=by show g=_;rw[hg.out];unfold Fs.snoc;rw[Fs.app_assoc];rfl
    have hd2:Hid ((d2.snoc ⟨jk,jn,jm,ja,jks⟩).len=(d.snoc ⟨kk,kn,km,ka,kks⟩).len):=by show _=_;rw[Fs.len_snoc,Fs.len_snoc,hd.out]
    have hl4:(d.len:Int)+1=((d.snoc ⟨kk,kn,km,ka,kks⟩).len:Nat):=by rw[Fs.len_snoc];rfl
    generalize sameE ⟨kk,kn,km,ka,kks⟩ ⟨jk,jn,jm,ja,jks⟩=cc at *;clear HA hf hg hd hsz hsk hsj SK3 TK3 K3 J3;go_wp2_with fail;refine c4.mono ?_;rintro x w4 ⟨rfl,b4⟩;have B4:=B3.trans (b4.mono B3.size);clear c4 p0 p1 p2 p3 pf q0 q1 q2 q3 qf b4 B3;cases cc with
    | false =>
     have FIN:Hid (W=false):=by show W=_;rw[<-HA2.out];rfl
     clear HA2;go_wp2;go_ret;rw[FIN.out];exact⟨rfl,B4⟩
    | true =>
     have HA3:Hid (sameF kr jr=W):=by show _=W;rw[<-HA2.out];rfl
     clear HA2;go_wp2;go_roundw
     case rel=>exact⟨_,kr,_,jr,hf2,hg2,hd2,by rw[<-hl4],HA3,B4⟩
     case measure=>simp[intOf];omega
 ·have hI:((f.len:Int) != (g.len:Int))=true:=by simp;omega
  have hI2:¬(f.len:Int)=(g.len:Int):=by omega
  have FIN:Hid (W=false):=by show W=_;rw[HW.out];exact sameF_len f g hl
  clear HW;go_wp2;go_ret;rw[FIN.out];exact⟨rfl,Below.refl _ _⟩
theorem samq_step {N:Nat}(IH:SameQOk N):SameQOk (N+1):=by
 intro e e2 ao ao2 cap cap2 w hN hlen hsh hlen2 hsh2 S S2;obtain⟨W,hW⟩:∃W,W=sameE e e2:=⟨_,rfl⟩
 rw[<-hW];have HW:Hid (W=sameE e e2):=hW;clear hW;have B0:Below w.heap.size w ((w.alloc (.cells #[.int .i64 e.k,.int .i64 e.n,stv e.nm,.slice ao e.kids.len cap] 34)).alloc (.cells #[.int .i64 e2.k,.int .i64 e2.n,stv e2.nm,.slice ao2 e2.kids.len cap2] 34)):=((Below.refl _ w).alloc (Nat.le_refl _) _).alloc (by simp) _;have E0:((w.alloc (.cells #[.int .i64 e.k,.int .i64 e.n,stv e.nm,.slice ao e.kids.len cap] 34)).alloc (.cells #[.int .i64 e2.k,.int .i64 e2.n,stv e2.nm,.slice ao2 e2.kids.len cap2] 34)).heap[w.heap.size]?=some (.cells #[.int .i64 e.k,.int .i64 e.n,stv e.nm,.slice ao e.kids.len cap] 34):=(Below.heap_alloc _ _ _ (by simp)).trans (heap_alloc_new w _);have Y0:((w.alloc (.cells #[.int .i64 e.k,.int .i64 e.n,stv e.nm,.slice ao e.kids.len cap] 34)).alloc (.cells #[.int .i64 e2.k,.int .i64 e2.n,stv e2.nm,.slice ao2 e2.kids.len cap2] 34)).heap[w.heap.size+1]?=some (.cells #[.int .i64 e2.k,.int .i64 e2.n,stv e2.nm,.slice ao2 e2.kids.len cap2] 34):=by
  have:=heap_alloc_new (w.alloc (.cells #[.int .i64 e.k,.int .i64 e.n,stv e.nm,.slice ao e.kids.len cap] 34)) (.cells #[.int .i64 e2.k,.int .i64 e2.n,stv e2.nm,.slice ao2 e2.kids.len cap2] 34)
  simpa using this
 have S0:=SnA.below S B0;have T0:=SnA.below S2 B0;rw[exN_out,exN_out];go_enter Tryz.func266,Tryz.ntmps266;go_upto_region 1 with fail;generalize (w.alloc (.cells #[.int .i64 e.k,.int .i64 e.n,stv e.nm,.slice ao e.kids.len cap] 34)).alloc (.cells #[.int .i64 e2.k,.int .i64 e2.n,stv e2.nm,.slice ao2 e2.kids.len cap2] 34)=w0 at *;obtain⟨bx,hbx⟩:∃bx,bx=w.heap.size:=⟨_,rfl⟩
 rw[<-hbx] at E0 Y0 B0 ⊢;have HB:Hid (bx=w.heap.size):=hbx;clear hbx S S2;obtain⟨p0,p1,p2,p3,pf⟩:=box4 E0;obtain⟨q0,q1,q2,q3,qf⟩:=box4 Y0;by_cases h1:e.k=e2.k
 ·have h1b:(e.k==e2.k)=true:=by simp[h1]
  by_cases h2:e.n=e2.n
  ·have h2b:(e.n==e2.n)=true:=by simp[h2]
   by_cases h3:e.nm=e2.nm
   ·have h3b:(e.nm==e2.nm)=true:=by simp[h3]
    have HF:Hid (W=sameF e.kids e2.kids):=by show W=_;rw[HW.out];simp[sameE,h1,h2,h3]
    have c1:=eqn_of IH e.kids e2.kids ao ao2 cap cap2 w0 (by omega) hlen hsh hlen2 hsh2 S0 T0;clear HW h1 h2 h3;go_wp2_with fail;refine c1.mono ?_;rintro x w1 ⟨rfl,b1⟩;have B1:=B0.trans (b1.mono (by rw[HB.out];exact B0.size));clear c1 p0 p1 p2 p3 pf q0 q1 q2 q3 qf;rw[<-HF.out];go_wp2;go_ret;exact⟨rfl,by rw[<-HB.out];exact B1⟩
   ·have h3b:(e.nm==e2.nm)=false:=by simpa using h3
    have FIN:Hid (W=false):=by show W=_;rw[HW.out];simp[sameE,h3]
    clear HW h1 h2 h3;go_wp2;go_ret;rw[FIN.out];exact⟨rfl,by rw[<-HB.out];exact B0⟩
  ·have h2b:(e.n==e2.n)=false:=by simpa using h2
   have FIN:Hid (W=false):=by show W=_;rw[HW.out];simp[sameE,h2]
   clear HW h1;go_wp2;go_ret;rw[FIN.out];exact⟨rfl,by rw[<-HB.out];exact B0⟩
 ·have h1b:(e.k==e2.k)=false:=by simpa using h1
  have FIN:Hid (W=false):=by show W=_;rw[HW.out];simp[sameE,h1]
  clear HW;go_wp2;go_ret;rw[FIN.out];exact⟨rfl,by rw[<-HB.out];exact B0⟩
theorem samq_ok:∀ N,SameQOk N -- 266
 | 0=>fun e e2 ao ao2 cap cap2 w h=>absurd h (Nat.not_lt_zero _)
 | N+1=>samq_step (samq_ok N)
end Go.Proofs.YtbjdkekhnajafaaGreatDoor
