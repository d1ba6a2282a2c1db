import Derived.Test.YtkhgahljbpmfaaaGreatDoorNodQ
set_option maxRecDepth 100000
set_option maxHeartbeats 8000000
namespace Go.Proofs.YtkhgahljbpmfaaaGreatDoor
open Go.ChangeShapes Go.WideShapes Go.ChangeAt Go.RowKit
set_option linter.unusedVariables false
set_option linter.unusedSimpArgs false
def Fs.nv:Fs->Prop
 | ⟨none⟩=>True
 | ⟨some ⟨k,n,_,_,ks,r⟩⟩=>(k=5->0<=n)/\ks.nv/\r.nv
def Ex.nv (e:Ex):Prop:=(e.k=5->0<=e.n)/\e.kids.nv
theorem Fs.app_nv:∀ {x y:Fs},(x.app y).nv->x.nv/\y.nv
 | ⟨none⟩,y,h=>⟨trivial,h⟩
 | ⟨some ⟨k,n,nm,a,ks,r⟩⟩,y,h=>⟨⟨h.1,h.2.1,(Fs.app_nv h.2.2).1⟩,(Fs.app_nv h.2.2).2⟩
theorem rgF_nv (cells:List Int):∀ (f:Fs) (pk:Int) (i ar wi:Nat) (s s':Rg) (kd:List Int),rgF cells f pk i ar wi s=some (s',kd)->f.nv
 | ⟨none⟩,pk,i,ar,wi,s,s',kd,h=>trivial
 | ⟨some ⟨k,n,nm,a,ks,r⟩⟩,pk,i,ar,wi,s,s',kd,h=>by
  have h0:rgF cells ⟨some ⟨k,n,nm,a,ks,r⟩⟩ pk i ar wi s=_:=rg_ex cells ⟨k,n,nm,a,ks⟩ r pk i ar wi s;rw[h0] at h;cases hx:rgE cells ⟨k,n,nm,a,ks⟩ (spotP pk i ar wi).1 (spotP pk i ar wi).2 s with
  | none=>rw[hx] at h;cases h
  | some z =>
   obtain⟨s2,k2⟩:=z;rw[hx] at h;simp only at h;cases hr:rgF cells r pk (i+1) ar wi s2 with
   | none=>rw[hr] at h;cases h
   | some z =>
    obtain⟨s3,rest⟩:=z;have hd:=docF_of hx;obtain⟨-,s1,kd1,hk,-⟩:=rgE_inv hx;simp only at hd hk;refine⟨?_,rgF_nv cells ks k 0 _ _ _ _ _ hk,rgF_nv cells r pk (i+1) ar wi _ _ _ hr⟩;rintro rfl;simp[docF] at hd;omega
theorem rgE_nv {cells:List Int}{e:Ex}{ar wi:Nat}{s s':Rg}{k:Int}(h:rgE cells e ar wi s=some (s',k)):e.nv:=by
 have hd:=docF_of h;obtain⟨-,s1,kd1,hk,-⟩:=rgE_inv h;refine⟨?_,rgF_nv _ _ _ _ _ _ _ _ _ hk⟩;intro h5;rw[h5] at hd;simp[docF] at hd;omega
theorem hg_cons (k n:Int)(nm:List UInt8)(a:Int)(ks r:Fs)(ar:Int):hgF (.cons k n nm a ks r) ar=max (hgE ⟨k,n,nm,a,ks⟩ ar) (hgF r ar):=rfl
def HangDOk (N:Nat):Prop:=∀ (e:Ex) (ao:Option Addr) (cap:Nat) (ar:Int) (w:World),e.kids.size<N->e.kids.len<=1000000000->e.kids.short->e.nv->0<=ar->ar<=1000000000->SnA w e.kids ao ->
 Calls Tryz.prog 219 #[exN e ao cap,.int .i64 ar] w fun x w'=>x=.returned (.int .i64 (hgE e ar))/\Below w.heap.size w w'
theorem hangd_step {N:Nat}(IH:HangDOk N):HangDOk (N+1):=by
 intro e ao cap ar w hN hlen hsh hnv h0 h1 S;obtain⟨W,hW⟩:∃W,W=hgE e ar:=⟨_,rfl⟩
 rw[<-hW];have HW:Hid (W=hgE e ar):=hW;clear hW;have B0:Below w.heap.size w (w.alloc (.cells #[.int .i64 e.k,.int .i64 e.n,stv e.nm,.slice ao e.kids.len cap] 34)):=(Below.refl _ w).alloc (Nat.le_refl _) _;have E0:(w.alloc (.cells #[.int .i64 e.k,.int .i64 e.n,stv e.nm,.slice ao e.kids.len cap] 34)).heap[w.heap.size]?=some (.cells #[.int .i64 e.k,.int .i64 e.n,stv e.nm,.slice ao e.kids.len cap] 34):=heap_alloc_new w _;rw[exN_out];go_enter Tryz.func219,Tryz.ntmps219;go_upto_region 1 with fail;generalize w.alloc (.cells #[.int .i64 e.k,.int .i64 e.n,stv e.nm,.slice ao e.kids.len cap] 34)=w0 at *;obtain⟨bx,hbx⟩:∃bx,bx=w.heap.size:=⟨_,rfl⟩
 rw[<-hbx] at E0 B0 ⊢;have HB:Hid (bx=w.heap.size):=hbx;clear hbx;obtain⟨c0,hc0⟩:∃c0:Int,c0=if e.k=5/\e.n<ar then e.n+1 else 0:=⟨_,rfl⟩
 have hcb:0<=c0/\c0<=ar:=by
  rw[hc0];split
  ·have:=hnv.1 (by omega)
   omega
  ·omega
 have HA0:Hid (max c0 (hgF e.kids ar)=W):=by show _=W;rw[HW.out,hc0];rfl
 clear HW;obtain⟨p0,p1,p2,p3,pf⟩:=box4 E0;by_cases hv:e.k=5
 ·have hkb:(e.k==5)=true:=by simpa using hv
  by_cases hv2:e.n<ar
  ·have hv3:=hnv.1 hv;obtain rfl:c0=e.n+1:=by rw[hc0,if_pos ⟨hv,hv2⟩]
   clear hv hc0;go_wp2;go_loopw [5,6] (fun v1 v5 wr=>∃(done r:Fs) (c:Int),Hid (e.kids=done.app r)/\v1=.int .i64 c/\v5=.int .i64 (done.len:Nat)/\0<=c/\c<=ar/\Hid (max c (hgF r ar)=W)/\wr.heap[bx]?=some (.cells #[.int .i64 e.k,.int .i64 e.n,stv e.nm,.slice ao e.kids.len cap] 34)/\Below bx w wr) (fun _ v5 _=>e.kids.len-(intOf v5).toNat)
   case atStart=>exact⟨.nil,e.kids,e.n+1,rfl,rfl,by show _=Value.int .i64 ((0:Nat):Int);rfl,hcb.1,hcb.2,HA0,E0,B0⟩
   case round =>
    clear E0 B0 HA0 p0 p1 p2 p3 pf hcb;obtain⟨done,r,c,hk,rfl,rfl,hc0,hc1,HA,E1,B1⟩:=hrel;have hlk:e.kids.len=done.len+r.len:=by rw[hk.out,Fs.len_app]
    obtain⟨p0,p1,p2,p3,pf⟩:=box4 E1;cases r using Fs.on with
    | nil =>
     have hlt:¬(done.len:Int)<(e.kids.len:Int):=by simp only[Fs.len] at hlk;omega
     have FIN:Hid (W=c):=by show W=c;rw[<-HA.out];simp only[hgF];omega
     clear HA hlk;go_wp2;go_ret;rw[FIN.out];exact⟨rfl,by rw[<-HB.out];exact B1⟩
    | cons kk kn km ka kks kr =>
     have hlt:(done.len:Int)<(e.kids.len:Int):=by simp only[Fs.len] at hlk;omega
     have hl3:done.len<e.kids.len:=by omega
     have hsz:e.kids.size=done.size+(kks.size+kr.size+1):=by rw[hk.out,Fs.size_app];rfl
     have hwk:(Fs.cons kk kn km ka kks kr).short:=Fs.app_short (x:=done) (by rw[<-hk.out];exact hsh);have hnk:(Fs.cons kk kn km ka kks kr).nv:=(Fs.app_nv (x:=done) (by rw[<-hk.out];exact hnv.2)).2;obtain⟨b,off,ak,ck,hao,lb1,-,x0,x1,x2,x3,SK⟩:=SlN.kidQ (by rw[<-hk.out];exact SnA.below S (by rw[<-HB.out];exact B1));subst hao;have hbd:=hgE_le ar h0 ⟨kk,kn,km,ka,kks⟩;have hbp:=hgE_pos ar ⟨kk,kn,km,ka,kks⟩;have HA2:Hid (max (max c (hgE ⟨kk,kn,km,ka,kks⟩ ar)) (hgF kr ar)=W):=by show _=W;rw[<-HA.out,hg_cons];generalize hgE ⟨kk,kn,km,ka,kks⟩ ar=z;generalize hgF kr ar=y;omega
     have hk2:Hid (e.kids=(done.snoc ⟨kk,kn,km,ka,kks⟩).app kr):=by show e.kids=_;rw[hk.out];unfold Fs.snoc;rw[Fs.app_assoc];rfl
     have hl2:(done.len:Int)+1=((done.snoc ⟨kk,kn,km,ka,kks⟩).len:Nat):=by rw[Fs.len_snoc];rfl
     have hcc:=IH ⟨kk,kn,km,ka,kks⟩ ak ck ar wr (by show kks.size<N;omega) hwk.2.1 hwk.2.2.1 ⟨hnk.1,hnk.2.1⟩ h0 h1 SK;rw[exN_out] at hcc;simp only at hcc;generalize hgE ⟨kk,kn,km,ka,kks⟩ ar=c2 at *;clear HA hlk hsz hwk SK hk hnk;go_wp2_with fail;refine hcc.mono ?_;rintro x w2 ⟨rfl,b2⟩;have B2:=B1.trans (b2.mono (by have:=lt_of_block E1;omega));have E2:=(b2.block bx (lt_of_block E1)).trans E1;clear hcc x0 x1 x2 x3 p0 p1 p2 p3 pf b2 E1 B1;go_wp2;go_roundw
     case rel=>exact⟨_,kr,max c c2,hk2,rfl,by rw[<-hl2],by omega,by omega,HA2,E2,B2⟩
     case measure=>simp[intOf];omega
  ·obtain rfl:c0=0:=by rw[hc0,if_neg (fun h=>hv2 h.2)]
   clear hv hc0;go_wp2;go_loopw [5,6] (fun v1 v5 wr=>∃(done r:Fs) (c:Int),Hid (e.kids=done.app r)/\v1=.int .i64 c/\v5=.int .i64 (done.len:Nat)/\0<=c/\c<=ar/\Hid (max c (hgF r ar)=W)/\wr.heap[bx]?=some (.cells #[.int .i64 e.k,.int .i64 e.n,stv e.nm,.slice ao e.kids.len cap] 34)/\Below bx w wr) (fun _ v5 _=>e.kids.len-(intOf v5).toNat)
   case atStart=>exact⟨.nil,e.kids,0,rfl,rfl,by show _=Value.int .i64 ((0:Nat):Int);rfl,hcb.1,hcb.2,HA0,E0,B0⟩
   case round =>
    clear E0 B0 HA0 p0 p1 p2 p3 pf hcb;obtain⟨done,r,c,hk,rfl,rfl,hc0,hc1,HA,E1,B1⟩:=hrel;have hlk:e.kids.len=done.len+r.len:=by rw[hk.out,Fs.len_app]
    obtain⟨p0,p1,p2,p3,pf⟩:=box4 E1;cases r using Fs.on with
    | nil =>
     have hlt:¬(done.len:Int)<(e.kids.len:Int):=by simp only[Fs.len] at hlk;omega
     have FIN:Hid (W=c):=by show W=c;rw[<-HA.out];simp only[hgF];omega
     clear HA hlk;go_wp2;go_ret;rw[FIN.out];exact⟨rfl,by rw[<-HB.out];exact B1⟩
    | cons kk kn km ka kks kr =>
     have hlt:(done.len:Int)<(e.kids.len:Int):=by simp only[Fs.len] at hlk;omega
     have hl3:done.len<e.kids.len:=by omega
     have hsz:e.kids.size=done.size+(kks.size+kr.size+1):=by rw[hk.out,Fs.size_app];rfl
     have hwk:(Fs.cons kk kn km ka kks kr).short:=Fs.app_short (x:=done) (by rw[<-hk.out];exact hsh);have hnk:(Fs.cons kk kn km ka kks kr).nv:=(Fs.app_nv (x:=done) (by rw[<-hk.out];exact hnv.2)).2;obtain⟨b,off,ak,ck,hao,lb1,-,x0,x1,x2,x3,SK⟩:=SlN.kidQ (by rw[<-hk.out];exact SnA.below S (by rw[<-HB.out];exact B1));subst hao;have hbd:=hgE_le ar h0 ⟨kk,kn,km,ka,kks⟩;have hbp:=hgE_pos ar ⟨kk,kn,km,ka,kks⟩;have HA2:Hid (max (max c (hgE ⟨kk,kn,km,ka,kks⟩ ar)) (hgF kr ar)=W):=by show _=W;rw[<-HA.out,hg_cons];generalize hgE ⟨kk,kn,km,ka,kks⟩ ar=z;generalize hgF kr ar=y;omega
     have hk2:Hid (e.kids=(done.snoc ⟨kk,kn,km,ka,kks⟩).app kr):=by show e.kids=_;rw[hk.out];unfold Fs.snoc;rw[Fs.app_assoc];rfl
     have hl2:(done.len:Int)+1=((done.snoc ⟨kk,kn,km,ka,kks⟩).len:Nat):=by rw[Fs.len_snoc];rfl
     have hcc:=IH ⟨kk,kn,km,ka,kks⟩ ak ck ar wr (by show kks.size<N;omega) hwk.2.1 hwk.2.2.1 ⟨hnk.1,hnk.2.1⟩ h0 h1 SK;rw[exN_out] at hcc;simp only at hcc;generalize hgE ⟨kk,kn,km,ka,kks⟩ ar=c2 at *;clear HA hlk hsz hwk SK hk hnk;go_wp2_with fail;refine hcc.mono ?_;rintro x w2 ⟨rfl,b2⟩;have B2:=B1.trans (b2.mono (by have:=lt_of_block E1;omega));have E2:=(b2.block bx (lt_of_block E1)).trans E1;clear hcc x0 x1 x2 x3 p0 p1 p2 p3 pf b2 E1 B1;go_wp2;go_roundw
     case rel=>exact⟨_,kr,max c c2,hk2,rfl,by rw[<-hl2],by omega,by omega,HA2,E2,B2⟩
     case measure=>simp[intOf];omega
 ·have hkb:(e.k==5)=false:=by simpa using hv
  obtain rfl:c0=0:=by rw[hc0,if_neg (fun h=>hv h.1)]
  clear hv hc0;go_wp2;go_loopw [5,6] (fun v1 v5 wr=>∃(done r:Fs) (c:Int),Hid (e.kids=done.app r)/\v1=.int .i64 c/\v5=.int .i64 (done.len:Nat)/\0<=c/\c<=ar/\Hid (max c (hgF r ar)=W)/\wr.heap[bx]?=some (.cells #[.int .i64 e.k,.int .i64 e.n,stv e.nm,.slice ao e.kids.len cap] 34)/\Below bx w wr) (fun _ v5 _=>e.kids.len-(intOf v5).toNat)
  case atStart=>exact⟨.nil,e.kids,0,rfl,rfl,by show _=Value.int .i64 ((0:Nat):Int);rfl,hcb.1,hcb.2,HA0,E0,B0⟩
  case round =>
   clear E0 B0 HA0 p0 p1 p2 p3 pf hcb;obtain⟨done,r,c,hk,rfl,rfl,hc0,hc1,HA,E1,B1⟩:=hrel;have hlk:e.kids.len=done.len+r.len:=by rw[hk.out,Fs.len_app]
   obtain⟨p0,p1,p2,p3,pf⟩:=box4 E1;cases r using Fs.on with
   | nil =>
    have hlt:¬(done.len:Int)<(e.kids.len:Int):=by simp only[Fs.len] at hlk;omega
    have FIN:Hid (W=c):=by show W=c;rw[<-HA.out];simp only[hgF];omega
    clear HA hlk;go_wp2;go_ret;rw[FIN.out];exact⟨rfl,by rw[<-HB.out];exact B1⟩
   | cons kk kn km ka kks kr =>
    have hlt:(done.len:Int)<(e.kids.len:Int):=by simp only[Fs.len] at hlk;omega
    have hl3:done.len<e.kids.len:=by omega
    have hsz:e.kids.size=done.size+(kks.size+kr.size+1):=by rw[hk.out,Fs.size_app];rfl
    have hwk:(Fs.cons kk kn km ka kks kr).short:=Fs.app_short (x:=done) (by rw[<-hk.out];exact hsh);have hnk:(Fs.cons kk kn km ka kks kr).nv:=(Fs.app_nv (x:=done) (by rw[<-hk.out];exact hnv.2)).2;obtain⟨b,off,ak,ck,hao,lb1,-,x0,x1,x2,x3,SK⟩:=SlN.kidQ (by rw[<-hk.out];exact SnA.below S (by rw[<-HB.out];exact B1));subst hao;have hbd:=hgE_le ar h0 ⟨kk,kn,km,ka,kks⟩;have hbp:=hgE_pos ar ⟨kk,kn,km,ka,kks⟩;have HA2:Hid (max (max c (hgE ⟨kk,kn,km,ka,kks⟩ ar)) (hgF kr ar)=W):=by show _=W;rw[<-HA.out,hg_cons];generalize hgE ⟨kk,kn,km,ka,kks⟩ ar=z;generalize hgF kr ar=y;omega
    have hk2:Hid (e.kids=(done.snoc ⟨kk,kn,km,ka,kks⟩).app kr):=by show e.kids=_;rw[hk.out];unfold Fs.snoc;rw[Fs.app_assoc];rfl
    have hl2:(done.len:Int)+1=((done.snoc ⟨kk,kn,km,ka,kks⟩).len:Nat):=by rw[Fs.len_snoc];rfl
    have hcc:=IH ⟨kk,kn,km,ka,kks⟩ ak ck ar wr (by show kks.size<N;omega) hwk.2.1 hwk.2.2.1 ⟨hnk.1,hnk.2.1⟩ h0 h1 SK;rw[exN_out] at hcc;simp only at hcc;generalize hgE ⟨kk,kn,km,ka,kks⟩ ar=c2 at *;clear HA hlk hsz hwk SK hk hnk;go_wp2_with fail;refine hcc.mono ?_;rintro x w2 ⟨rfl,b2⟩;have B2:=B1.trans (b2.mono (by have:=lt_of_block E1;omega));have E2:=(b2.block bx (lt_of_block E1)).trans E1;clear hcc x0 x1 x2 x3 p0 p1 p2 p3 pf b2 E1 B1;go_wp2;go_roundw
    case rel=>exact⟨_,kr,max c c2,hk2,rfl,by rw[<-hl2],by omega,by omega,HA2,E2,B2⟩
    case measure=>simp[intOf];omega
theorem hangd_ok:∀ N,HangDOk N -- 219
 | 0=>fun e ao cap ar w h=>absurd h (Nat.not_lt_zero _)
 | N+1=>hangd_step (hangd_ok N)
def HangNOk (N:Nat):Prop:=∀ (e:Ex) (ao:Option Addr) (cap:Nat) (ar:Int) (w:World),e.kids.size<N->e.kids.len<=1000000000->e.kids.short->e.nv->0<=ar->ar<=1000000000->SnA w e.kids ao ->
 Calls Tryz.prog 224 #[exN e ao cap,.int .i64 ar] w fun x w'=>x=.returned (.int .i64 (hgE e ar))/\Below w.heap.size w w'
theorem hangn_step {N:Nat}(IH:HangNOk N):HangNOk (N+1):=by
 intro e ao cap ar w hN hlen hsh hnv h0 h1 S;obtain⟨W,hW⟩:∃W,W=hgE e ar:=⟨_,rfl⟩
 rw[<-hW];have HW:Hid (W=hgE e ar):=hW;clear hW;have B0:Below w.heap.size w (w.alloc (.cells #[.int .i64 e.k,.int .i64 e.n,stv e.nm,.slice ao e.kids.len cap] 34)):=(Below.refl _ w).alloc (Nat.le_refl _) _;have E0:(w.alloc (.cells #[.int .i64 e.k,.int .i64 e.n,stv e.nm,.slice ao e.kids.len cap] 34)).heap[w.heap.size]?=some (.cells #[.int .i64 e.k,.int .i64 e.n,stv e.nm,.slice ao e.kids.len cap] 34):=heap_alloc_new w _;rw[exN_out];go_enter Tryz.func224,Tryz.ntmps224;go_upto_region 1 with fail;generalize w.alloc (.cells #[.int .i64 e.k,.int .i64 e.n,stv e.nm,.slice ao e.kids.len cap] 34)=w0 at *;obtain⟨bx,hbx⟩:∃bx,bx=w.heap.size:=⟨_,rfl⟩
 rw[<-hbx] at E0 B0 ⊢;have HB:Hid (bx=w.heap.size):=hbx;clear hbx;obtain⟨c0,hc0⟩:∃c0:Int,c0=if e.k=5/\e.n<ar then e.n+1 else 0:=⟨_,rfl⟩
 have hcb:0<=c0/\c0<=ar:=by
  rw[hc0];split
  ·have:=hnv.1 (by omega)
   omega
  ·omega
 have HA0:Hid (max c0 (hgF e.kids ar)=W):=by show _=W;rw[HW.out,hc0];rfl
 clear HW;obtain⟨p0,p1,p2,p3,pf⟩:=box4 E0;by_cases hv:e.k=5
 ·have hkb:(e.k==5)=true:=by simpa using hv
  by_cases hv2:e.n<ar
  ·have hv3:=hnv.1 hv;obtain rfl:c0=e.n+1:=by rw[hc0,if_pos ⟨hv,hv2⟩]
   clear hv hc0;go_wp2;go_loopw [5,23] (fun v1 v5 wr=>∃(done r:Fs) (c:Int),Hid (e.kids=done.app r)/\v1=.int .i64 c/\v5=.int .i64 (done.len:Nat)/\0<=c/\c<=ar/\Hid (max c (hgF r ar)=W)/\wr.heap[bx]?=some (.cells #[.int .i64 e.k,.int .i64 e.n,stv e.nm,.slice ao e.kids.len cap] 34)/\Below bx w wr) (fun _ v5 _=>e.kids.len-(intOf v5).toNat)
   case atStart=>exact⟨.nil,e.kids,e.n+1,rfl,rfl,by show _=Value.int .i64 ((0:Nat):Int);rfl,hcb.1,hcb.2,HA0,E0,B0⟩
   case round =>
    clear E0 B0 HA0 p0 p1 p2 p3 pf hcb;obtain⟨done,r,c,hk,rfl,rfl,hc0,hc1,HA,E1,B1⟩:=hrel;have hlk:e.kids.len=done.len+r.len:=by rw[hk.out,Fs.len_app]
    obtain⟨p0,p1,p2,p3,pf⟩:=box4 E1;cases r using Fs.on with
    | nil =>
     have hlt:¬(done.len:Int)<(e.kids.len:Int):=by simp only[Fs.len] at hlk;omega
     have FIN:Hid (W=c):=by show W=c;rw[<-HA.out];simp only[hgF];omega
     clear HA hlk;go_wp2;go_ret;rw[FIN.out];exact⟨rfl,by rw[<-HB.out];exact B1⟩
    | cons kk kn km ka kks kr =>
     have hlt:(done.len:Int)<(e.kids.len:Int):=by simp only[Fs.len] at hlk;omega
     have hl3:done.len<e.kids.len:=by omega
     have hsz:e.kids.size=done.size+(kks.size+kr.size+1):=by rw[hk.out,Fs.size_app];rfl
     have hwk:(Fs.cons kk kn km ka kks kr).short:=Fs.app_short (x:=done) (by rw[<-hk.out];exact hsh);have hnk:(Fs.cons kk kn km ka kks kr).nv:=(Fs.app_nv (x:=done) (by rw[<-hk.out];exact hnv.2)).2;obtain⟨b,off,ak,ck,hao,lb1,-,x0,x1,x2,x3,SK⟩:=SlN.kidQ (by rw[<-hk.out];exact SnA.below S (by rw[<-HB.out];exact B1));subst hao;have hbd:=hgE_le ar h0 ⟨kk,kn,km,ka,kks⟩;have hbp:=hgE_pos ar ⟨kk,kn,km,ka,kks⟩;have HA2:Hid (max (max c (hgE ⟨kk,kn,km,ka,kks⟩ ar)) (hgF kr ar)=W):=by show _=W;rw[<-HA.out,hg_cons];generalize hgE ⟨kk,kn,km,ka,kks⟩ ar=z;generalize hgF kr ar=y;omega
     have hk2:Hid (e.kids=(done.snoc ⟨kk,kn,km,ka,kks⟩).app kr):=by show e.kids=_;rw[hk.out];unfold Fs.snoc;rw[Fs.app_assoc];rfl
     have hl2:(done.len:Int)+1=((done.snoc ⟨kk,kn,km,ka,kks⟩).len:Nat):=by rw[Fs.len_snoc];rfl
     have hbk:=lt_of_block E1;have B3:Below wr.heap.size wr (wr.alloc (.cells #[.int .i64 kk,.int .i64 kn,stv km,.slice ak kks.len ck] 34)):=(Below.refl _ wr).alloc (Nat.le_refl _) _;have Z3:(wr.alloc (.cells #[.int .i64 kk,.int .i64 kn,stv km,.slice ak kks.len ck] 34)).heap[wr.heap.size]?=some (.cells #[.int .i64 kk,.int .i64 kn,stv km,.slice ak kks.len ck] 34):=heap_alloc_new wr _;have SK3:=SnA.below SK B3;clear HA hlk SK hk;go_upto_region 7 with fail;generalize wr.alloc (.cells #[.int .i64 kk,.int .i64 kn,stv km,.slice ak kks.len ck] 34)=w3 at *;obtain⟨zb,hzb⟩:∃zb,zb=wr.heap.size:=⟨_,rfl⟩
     rw[<-hzb] at Z3 ⊢;have HZB:Hid (zb=wr.heap.size):=hzb;have hcc:=IH ⟨kk,kn,km,ka,kks⟩ ak ck ar w3 (by show kks.size<N;omega) hwk.2.1 hwk.2.2.1 ⟨hnk.1,hnk.2.1⟩ h0 h1 SK3;rw[exN_out] at hcc;simp only at hcc;generalize hgE ⟨kk,kn,km,ka,kks⟩ ar=c2 at *;obtain⟨z0,z1,z2,z3,zf⟩:=box4 Z3;have hs3:=lt_of_block Z3;have B13:Below bx w w3:=B1.trans (B3.mono (by omega));have E3:=(B3.block bx hbk).trans E1;clear hsz hwk hnk hzb SK3 x0 x1 x2 x3 p0 p1 p2 p3 pf E1 B1 B3;go_wp2_with fail;refine hcc.mono ?_;rintro x w2 ⟨rfl,b2⟩;have B2:=B13.trans (b2.mono (by have:=lt_of_block E3;omega));have E2:=(b2.block bx (lt_of_block E3)).trans E3;clear hcc z0 z1 z2 z3 zf b2 E3 B13 Z3;go_wp2;go_roundw
     case rel=>exact⟨_,kr,max c c2,hk2,rfl,by rw[<-hl2],by omega,by omega,HA2,E2,B2⟩
     case measure=>simp[intOf];omega
  ·obtain rfl:c0=0:=by rw[hc0,if_neg (fun h=>hv2 h.2)]
   clear hv hc0;go_wp2;go_loopw [5,23] (fun v1 v5 wr=>∃(done r:Fs) (c:Int),Hid (e.kids=done.app r)/\v1=.int .i64 c/\v5=.int .i64 (done.len:Nat)/\0<=c/\c<=ar/\Hid (max c (hgF r ar)=W)/\wr.heap[bx]?=some (.cells #[.int .i64 e.k,.int .i64 e.n,stv e.nm,.slice ao e.kids.len cap] 34)/\Below bx w wr) (fun _ v5 _=>e.kids.len-(intOf v5).toNat)
   case atStart=>exact⟨.nil,e.kids,0,rfl,rfl,by show _=Value.int .i64 ((0:Nat):Int);rfl,hcb.1,hcb.2,HA0,E0,B0⟩
   case round =>
    clear E0 B0 HA0 p0 p1 p2 p3 pf hcb;obtain⟨done,r,c,hk,rfl,rfl,hc0,hc1,HA,E1,B1⟩:=hrel;have hlk:e.kids.len=done.len+r.len:=by rw[hk.out,Fs.len_app]
    obtain⟨p0,p1,p2,p3,pf⟩:=box4 E1;cases r using Fs.on with
    | nil =>
     have hlt:¬(done.len:Int)<(e.kids.len:Int):=by simp only[Fs.len] at hlk;omega
     have FIN:Hid (W=c):=by show W=c;rw[<-HA.out];simp only[hgF];omega
     clear HA hlk;go_wp2;go_ret;rw[FIN.out];exact⟨rfl,by rw[<-HB.out];exact B1⟩
    | cons kk kn km ka kks kr =>
     have hlt:(done.len:Int)<(e.kids.len:Int):=by simp only[Fs.len] at hlk;omega
     have hl3:done.len<e.kids.len:=by omega
     have hsz:e.kids.size=done.size+(kks.size+kr.size+1):=by rw[hk.out,Fs.size_app];rfl
     have hwk:(Fs.cons kk kn km ka kks kr).short:=Fs.app_short (x:=done) (by rw[<-hk.out];exact hsh);have hnk:(Fs.cons kk kn km ka kks kr).nv:=(Fs.app_nv (x:=done) (by rw[<-hk.out];exact hnv.2)).2;obtain⟨b,off,ak,ck,hao,lb1,-,x0,x1,x2,x3,SK⟩:=SlN.kidQ (by rw[<-hk.out];exact SnA.below S (by rw[<-HB.out];exact B1));subst hao;have hbd:=hgE_le ar h0 ⟨kk,kn,km,ka,kks⟩;have hbp:=hgE_pos ar ⟨kk,kn,km,ka,kks⟩;have HA2:Hid (max (max c (hgE ⟨kk,kn,km,ka,kks⟩ ar)) (hgF kr ar)=W):=by show _=W;rw[<-HA.out,hg_cons];generalize hgE ⟨kk,kn,km,ka,kks⟩ ar=z;generalize hgF kr ar=y;omega
     have hk2:Hid (e.kids=(done.snoc ⟨kk,kn,km,ka,kks⟩).app kr):=by show e.kids=_;rw[hk.out];unfold Fs.snoc;rw[Fs.app_assoc];rfl
     have hl2:(done.len:Int)+1=((done.snoc ⟨kk,kn,km,ka,kks⟩).len:Nat):=by rw[Fs.len_snoc];rfl
     have hbk:=lt_of_block E1;have B3:Below wr.heap.size wr (wr.alloc (.cells #[.int .i64 kk,.int .i64 kn,stv km,.slice ak kks.len ck] 34)):=(Below.refl _ wr).alloc (Nat.le_refl _) _;have Z3:(wr.alloc (.cells #[.int .i64 kk,.int .i64 kn,stv km,.slice ak kks.len ck] 34)).heap[wr.heap.size]?=some (.cells #[.int .i64 kk,.int .i64 kn,stv km,.slice ak kks.len ck] 34):=heap_alloc_new wr _;have SK3:=SnA.below SK B3;clear HA hlk SK hk;go_upto_region 7 with fail;generalize wr.alloc (.cells #[.int .i64 kk,.int .i64 kn,stv km,.slice ak kks.len ck] 34)=w3 at *;obtain⟨zb,hzb⟩:∃zb,zb=wr.heap.size:=⟨_,rfl⟩
     rw[<-hzb] at Z3 ⊢;have HZB:Hid (zb=wr.heap.size):=hzb;have hcc:=IH ⟨kk,kn,km,ka,kks⟩ ak ck ar w3 (by show kks.size<N;omega) hwk.2.1 hwk.2.2.1 ⟨hnk.1,hnk.2.1⟩ h0 h1 SK3;rw[exN_out] at hcc;simp only at hcc;generalize hgE ⟨kk,kn,km,ka,kks⟩ ar=c2 at *;obtain⟨z0,z1,z2,z3,zf⟩:=box4 Z3;have hs3:=lt_of_block Z3;have B13:Below bx w w3:=B1.trans (B3.mono (by omega));have E3:=(B3.block bx hbk).trans E1;clear hsz hwk hnk hzb SK3 x0 x1 x2 x3 p0 p1 p2 p3 pf E1 B1 B3;go_wp2_with fail;refine hcc.mono ?_;rintro x w2 ⟨rfl,b2⟩;have B2:=B13.trans (b2.mono (by have:=lt_of_block E3;omega));have E2:=(b2.block bx (lt_of_block E3)).trans E3;clear hcc z0 z1 z2 z3 zf b2 E3 B13 Z3;go_wp2;go_roundw
     case rel=>exact⟨_,kr,max c c2,hk2,rfl,by rw[<-hl2],by omega,by omega,HA2,E2,B2⟩
     case measure=>simp[intOf];omega
 ·have hkb:(e.k==5)=false:=by simpa using hv
  obtain rfl:c0=0:=by rw[hc0,if_neg (fun h=>hv h.1)]
  clear hv hc0;go_wp2;go_loopw [5,23] (fun v1 v5 wr=>∃(done r:Fs) (c:Int),Hid (e.kids=done.app r)/\v1=.int .i64 c/\v5=.int .i64 (done.len:Nat)/\0<=c/\c<=ar/\Hid (max c (hgF r ar)=W)/\wr.heap[bx]?=some (.cells #[.int .i64 e.k,.int .i64 e.n,stv e.nm,.slice ao e.kids.len cap] 34)/\Below bx w wr) (fun _ v5 _=>e.kids.len-(intOf v5).toNat)
  case atStart=>exact⟨.nil,e.kids,0,rfl,rfl,by show _=Value.int .i64 ((0:Nat):Int);rfl,hcb.1,hcb.2,HA0,E0,B0⟩
  case round =>
   clear E0 B0 HA0 p0 p1 p2 p3 pf hcb;obtain⟨done,r,c,hk,rfl,rfl,hc0,hc1,HA,E1,B1⟩:=hrel;have hlk:e.kids.len=done.len+r.len:=by rw[hk.out,Fs.len_app]
   obtain⟨p0,p1,p2,p3,pf⟩:=box4 E1;cases r using Fs.on with
   | nil =>
    have hlt:¬(done.len:Int)<(e.kids.len:Int):=by simp only[Fs.len] at hlk;omega
    have FIN:Hid (W=c):=by show W=c;rw[<-HA.out];simp only[hgF];omega
    clear HA hlk;go_wp2;go_ret;rw[FIN.out];exact⟨rfl,by rw[<-HB.out];exact B1⟩
   | cons kk kn km ka kks kr =>
    have hlt:(done.len:Int)<(e.kids.len:Int):=by simp only[Fs.len] at hlk;omega
    have hl3:done.len<e.kids.len:=by omega
    have hsz:e.kids.size=done.size+(kks.size+kr.size+1):=by rw[hk.out,Fs.size_app];rfl
    have hwk:(Fs.cons kk kn km ka kks kr).short:=Fs.app_short (x:=done) (by rw[<-hk.out];exact hsh);have hnk:(Fs.cons kk kn km ka kks kr).nv:=(Fs.app_nv (x:=done) (by rw[<-hk.out];exact hnv.2)).2;obtain⟨b,off,ak,ck,hao,lb1,-,x0,x1,x2,x3,SK⟩:=SlN.kidQ (by rw[<-hk.out];exact SnA.below S (by rw[<-HB.out];exact B1));subst hao;have hbd:=hgE_le ar h0 ⟨kk,kn,km,ka,kks⟩;have hbp:=hgE_pos ar ⟨kk,kn,km,ka,kks⟩;have HA2:Hid (max (max c (hgE ⟨kk,kn,km,ka,kks⟩ ar)) (hgF kr ar)=W):=by show _=W;rw[<-HA.out,hg_cons];generalize hgE ⟨kk,kn,km,ka,kks⟩ ar=z;generalize hgF kr ar=y;omega
    have hk2:Hid (e.kids=(done.snoc ⟨kk,kn,km,ka,kks⟩).app kr):=by show e.kids=_;rw[hk.out];unfold Fs.snoc;rw[Fs.app_assoc];rfl
    have hl2:(done.len:Int)+1=((done.snoc ⟨kk,kn,km,ka,kks⟩).len:Nat):=by rw[Fs.len_snoc];rfl
    have hbk:=lt_of_block E1;have B3:Below wr.heap.size wr (wr.alloc (.cells #[.int .i64 kk,.int .i64 kn,stv km,.slice ak kks.len ck] 34)):=(Below.refl _ wr).alloc (Nat.le_refl _) _;have Z3:(wr.alloc (.cells #[.int .i64 kk,.int .i64 kn,stv km,.slice ak kks.len ck] 34)).heap[wr.heap.size]?=some (.cells #[.int .i64 kk,.int .i64 kn,stv km,.slice ak kks.len ck] 34):=heap_alloc_new wr _;have SK3:=SnA.below SK B3;clear HA hlk SK hk;go_upto_region 7 with fail;generalize wr.alloc (.cells #[.int .i64 kk,.int .i64 kn,stv km,.slice ak kks.len ck] 34)=w3 at *;obtain⟨zb,hzb⟩:∃zb,zb=wr.heap.size:=⟨_,rfl⟩
    rw[<-hzb] at Z3 ⊢;have HZB:Hid (zb=wr.heap.size):=hzb;have hcc:=IH ⟨kk,kn,km,ka,kks⟩ ak ck ar w3 (by show kks.size<N;omega) hwk.2.1 hwk.2.2.1 ⟨hnk.1,hnk.2.1⟩ h0 h1 SK3;rw[exN_out] at hcc;simp only at hcc;generalize hgE ⟨kk,kn,km,ka,kks⟩ ar=c2 at *;obtain⟨z0,z1,z2,z3,zf⟩:=box4 Z3;have hs3:=lt_of_block Z3;have B13:Below bx w w3:=B1.trans (B3.mono (by omega));have E3:=(B3.block bx hbk).trans E1;clear hsz hwk hnk hzb SK3 x0 x1 x2 x3 p0 p1 p2 p3 pf E1 B1 B3;go_wp2_with fail;refine hcc.mono ?_;rintro x w2 ⟨rfl,b2⟩;have B2:=B13.trans (b2.mono (by have:=lt_of_block E3;omega));have E2:=(b2.block bx (lt_of_block E3)).trans E3;clear hcc z0 z1 z2 z3 zf b2 E3 B13 Z3;go_wp2;go_roundw
    case rel=>exact⟨_,kr,max c c2,hk2,rfl,by rw[<-hl2],by omega,by omega,HA2,E2,B2⟩
    case measure=>simp[intOf];omega
theorem hangn_ok:∀ N,HangNOk N -- 224
 | 0=>fun e ao cap ar w h=>absurd h (Nat.not_lt_zero _)
 | N+1=>hangn_step (hangn_ok N)
structure FitN (e:Ex):Prop where
 nm:e.nm.length<=maxLen
 len:e.kids.len<=1000000000
 sh:e.kids.short
theorem FitN.kid {e:Ex}{d r:Fs}{x:Ex}(h:FitN e)(hk:e.kids=d.app (Fs.ex x r)):FitN x:=by
 have:=Fs.app_short (x:=d) (y:=Fs.ex x r) (by rw[<-hk];exact h.sh)
 exact⟨this.1,this.2.1,this.2.2.1⟩
theorem Kp.cell {a b:Nat}{w w':World}(h:Kp a b w w'){g:Nat}(hg:g<w.heap.size)(ha:g≠a)(hb:g≠b)(j:Nat):w'.cell? ⟨g,j,none⟩=w.cell? ⟨g,j,none⟩:=World.cell?_of_block (a:=⟨g,j,none⟩) (h.block g hg ha hb)
open Go.ChangeShapes Go.WideShapes Go.ChangeAt Go.RowKit Go.Maps
abbrev Lt0 (n0:Nat):Nat->Prop:=fun k=>k<n0
structure RD (w:World)(n0 rb mb:Nat)(bv:Value)(c:Nat)(s:Rg):Prop where
 blk:w.heap[rb]?=some (.cells #[bv,.map (some mb),.int .i64 (s.1:Nat)] 170 (0,0))
 mp:∃m,m+c<=s.1/\MpN w (Lt0 n0) mb m s.2
 le:s.1<=4096
 fit:∀ i y,s.2 i=some y->FitN y
theorem RD.ltm {w:World}{n0 rb mb c:Nat}{bv:Value}{s:Rg}(h:RD w n0 rb mb bv c s):mb<w.heap.size:=by obtain⟨m,-,h⟩:=h.mp;exact h.lt
theorem RD.less {w:World}{n0 rb mb c:Nat}{bv:Value}{s:Rg}(h:RD w n0 rb mb bv (c+1) s):RD w n0 rb mb bv c s:=⟨h.blk,by obtain⟨m,hm,hp⟩:=h.mp;exact⟨m,by omega,hp⟩,h.le,h.fit⟩
theorem RD.below {w w':World}{n0 rb mb c:Nat}{bv:Value}{s:Rg}(h:RD w n0 rb mb bv c s)(b:Below w.heap.size w w'):RD w' n0 rb mb bv c s:=by
 refine⟨(b.block _ (lt_of_block h.blk)).trans h.blk,?_,h.le,h.fit⟩;obtain⟨m,hm,hp⟩:=h.mp;exact⟨m,hm,hp.mono (b.block _ hp.lt) (fun i _ hl=>b.block i hl) b.size⟩
def PostKe (w:World)(n0 rb mb:Nat)(bv:Value)(c:Nat)(r:Option Rg)(x:Ending)(w':World):Prop:=x=.returned (.bool r.isSome)/\(∀ s,r=some s->RD w' n0 rb mb bv c s)/\Kp rb mb w w'
theorem keepP_in {cells:List Int}{i:Nat}{x:Ex}{ar:Nat}{s:Rg}{lv:Int}(h:cells[i]?=some lv):keepP cells (i:Nat) (Fs.ex x .nil) ar s=if (ar:Int)<lv\/lv<hgE x ar then none else (match s.2 i with|none=>some (s.1,fun j=>if j=i then some x else s.2 j)|some y=>if sameE y x=true then some s else none):=by
 have hh:(Fs.ex x .nil).head=x:=rfl;simp only[keepP,Int.toNat_natCast,h,hh];rfl
theorem keeps_c (k0:Int)(i:Nat)(nm:List UInt8)(x:Ex)(ao:Option Addr)(cap n0 rb mb:Nat)(bv:Value)(cells:List Int)(ar wi:Nat)(s:Rg)(w:World)(hi:i<cells.length)(hcl:cells.length<=256)(hfx:FitN x)(hnv:x.nv)(har:ar<=100)(hwi:wi<=100)(hne:rb≠mb)(hn0:n0<=mb)(c:Nat)(h:RD w n0 rb mb bv (c+1) s)(hn:Inw w (Lt0 n0) bv cells)(S:SlN w (Lt0 n0) (Fs.ex x .nil) ao) :
  Calls Tryz.prog 185 #[.pointer (some ⟨rb,0,none⟩),.agg #[.int .i64 k0,.int .i64 (i:Nat),stv nm,.slice ao 1 cap],.agg #[.int .i64 (ar:Nat),.int .i64 (wi:Nat)]] w (PostKe w n0 rb mb bv c (keepP cells (i:Nat) (Fs.ex x .nil) ar s)):=by
 obtain⟨R,hR⟩:∃R,R=keepP cells (i:Nat) (Fs.ex x .nil) ar s:=⟨_,rfl⟩
 rw[<-hR];obtain⟨lv,hlv⟩:∃lv,cells[i]?=some lv:=⟨_,List.getElem?_eq_getElem hi⟩
 have HR:Hid (R=if (ar:Int)<lv\/lv<hgE x ar then none else (match s.2 i with|none=>some (s.1,fun j=>if j=i then some x else s.2 j)|some y=>if sameE y x=true then some s else none)):=hR.trans (keepP_in hlv);clear hR;obtain⟨gb,off,ak,ck,hao,hgl,hgp,y0,y1,y2,y3,SK⟩:=SlN.kidQ (x:=.nil) (r:=.nil) (ks:=x.kids) (k:=x.k) (n:=x.n) (nm:=x.nm) (a:=x.a) S;subst hao;have hl0:(Fs.nil).len=0:=rfl;simp only[hl0,Nat.zero_mul,Nat.add_zero] at y0 y1 y2 y3;obtain⟨aoc,capc,rfl,hcells⟩:=hn;rcases hcells with hcells|⟨cb,coff,rfl,hcp,hcb,hcc⟩
 ·subst hcells;simp at hi
 have ccl:=hcc i lv hlv;clear hcc S;have hiI:(i:Int)<(cells.length:Int):=by omega
 obtain⟨w0,hw0⟩:∃w0,w0=(w.alloc (.cells #[.int .i64 k0,.int .i64 (i:Nat),stv nm,.slice (some ⟨gb,off,none⟩) 1 cap] 34)).alloc (.cells #[.int .i64 (ar:Nat),.int .i64 (wi:Nat)] 173):=⟨_,rfl⟩
 have B0:Below w.heap.size w w0:=by rw[hw0];exact((Below.refl _ w).alloc (Nat.le_refl _) _).alloc (by simp) _
 have E0:w0.heap[w.heap.size]?=some (.cells #[.int .i64 k0,.int .i64 (i:Nat),stv nm,.slice (some ⟨gb,off,none⟩) 1 cap] 34):=by
  rw[hw0];exact(Below.heap_alloc _ _ _ (by simp)).trans (heap_alloc_new w _)
 have T0:w0.heap[w.heap.size+1]?=some (.cells #[.int .i64 (ar:Nat),.int .i64 (wi:Nat)] 173):=by
  rw[hw0]
  have:=heap_alloc_new (w.alloc (.cells #[.int .i64 k0,.int .i64 (i:Nat),stv nm,.slice (some ⟨gb,off,none⟩) 1 cap] 34)) (.cells #[.int .i64 (ar:Nat),.int .i64 (wi:Nat)] 173)
  simpa using this
 have R0:=h.below B0;have hrl:=lt_of_block h.blk;have hml:=h.ltm;have SK0:=SK.belowP B0;have Y0:=(B0.cell (p:=⟨gb,off,none⟩) hgl).trans y0;have Y1:=(B0.cell (p:=⟨gb,off+1,none⟩) hgl).trans y1;have Y2:=(B0.cell (p:=⟨gb,off+2,none⟩) hgl).trans y2;have Y3:=(B0.cell (p:=⟨gb,off+3,none⟩) hgl).trans y3;have CC0:=(B0.cell (p:=⟨cb,coff+i,none⟩) hcb).trans ccl;have hgl0:=Nat.lt_of_lt_of_le hgl B0.size;have hcb0:=Nat.lt_of_lt_of_le hcb B0.size;have KK:Kp rb mb w w0:=Kp.ofBelow B0;go_enter Tryz.func185,Tryz.ntmps185;go_upto_region 1 with fail;rw[<-hw0];obtain⟨bx,hbx⟩:∃bx,bx=w.heap.size:=⟨_,rfl⟩
 rw[<-hbx] at E0 T0 ⊢;have hb1:bx≠rb:=by omega
 have hb2:bx≠mb:=by omega
 have hs1:bx+1≠rb:=by omega
 have hs2:bx+1≠mb:=by omega
 clear hbx hw0 B0 hrl hml y0 y1 y2 y3 ccl hgl hcb h SK;have hbl:=lt_of_block E0;have hsl:=lt_of_block T0;obtain⟨p0,p1,p2,p3,pf⟩:=box4 E0;obtain⟨t0,t1,tf⟩:=box2 T0;obtain⟨r0,r1,r2,rf⟩:=box3 R0.blk;have hrl:=lt_of_block R0.blk;go_wp2_with fail;go_region_held3 (fun wx=>wx.cell? ⟨bx,1,none⟩=some (.int .i64 (i:Nat))/\wx.cell? ⟨bx,3,none⟩=some (.slice (some ⟨gb,off,none⟩) 1 cap)/\wx.cell? ⟨rb,0,none⟩=some (.slice (some ⟨cb,coff,none⟩) cells.length capc)/\wx.cell? ⟨cb,coff+i,none⟩=some (.int .i64 lv)/\wx.cell? ⟨gb,off,none⟩=some (.int .i64 x.k)/\wx.cell? ⟨gb,off+1,none⟩=some (.int .i64 x.n)/\wx.cell? ⟨gb,off+2,none⟩=some (stv x.nm)/\wx.cell? ⟨gb,off+3,none⟩=some (.slice ak x.kids.len ck)) (go_keep) (fail);have B1:Below w0.heap.size w0 ((w0.alloc (.cells #[.int .i64 x.k,.int .i64 x.n,stv x.nm,.slice ak x.kids.len ck] 34)).drew):=(Below.refl _ w0).alloc (Nat.le_refl _) _ |>.trans ⟨rfl,rfl,rfl,Nat.le_refl _,fun _ _=>rfl⟩
 have X1:((w0.alloc (.cells #[.int .i64 x.k,.int .i64 x.n,stv x.nm,.slice ak x.kids.len ck] 34)).drew).heap[w0.heap.size]?=some (.cells #[.int .i64 x.k,.int .i64 x.n,stv x.nm,.slice ak x.kids.len ck] 34):=heap_alloc_new w0 _;have R1:=R0.below B1;have E1:=(B1.block _ hbl).trans E0;have T1:=(B1.block _ hsl).trans T0;have SK1:=SK0.belowP B1;have KK1:=KK.trans (Kp.ofBelow B1);have hxr:w0.heap.size≠rb:=by omega
 have hxm:w0.heap.size≠mb:=by have:=R0.ltm;omega
 have hxb:Hid (bx<w0.heap.size/\bx+1<w0.heap.size):=⟨hbl,hsl⟩
 clear p0 p1 p2 p3 pf t0 t1 tf r0 r1 r2 rf R0 E0 T0 SK0 KK Y0 Y1 Y2 Y3 CC0 hgl0 hcb0 hbl hsl hrl B1;generalize (w0.alloc (.cells #[.int .i64 x.k,.int .i64 x.n,stv x.nm,.slice ak x.kids.len ck] 34)).drew=w1 at *;generalize w0.heap.size=xb at *;obtain⟨p0,p1,p2,p3,pf⟩:=box4 E1;obtain⟨t0,t1,tf⟩:=box2 T1;obtain⟨r0,r1,r2,rf⟩:=box3 R1.blk;obtain⟨z0,z1,z2,z3,zf⟩:=box4 X1;by_cases hlt:(ar:Int)<lv
 ·have HF:Hid (PostKe w n0 rb mb (.slice (some ⟨cb,coff,none⟩) cells.length capc) c R (.returned (.bool false)) w1):=by
   rw[HR.out,if_pos (.inl hlt)];exact⟨rfl,fun s h=>(by cases h),KK1⟩
  clear HR R1 E1 T1 X1 SK1 KK1;go_wp2;go_ret;exact HF.out
 have c1:=hangn_ok (x.kids.size+1) x ak ck ar w1 (by omega) hfx.len hfx.sh hnv (by omega) (by omega) SK1.all;rw[exN_out] at c1;generalize hgE x ar=hx at *;go_wp2_with fail;refine c1.mono ?_;rintro z w2 ⟨rfl,B2⟩;have R2:=R1.below B2;have E2:=(B2.block _ (lt_of_block E1)).trans E1;have T2:=(B2.block _ (lt_of_block T1)).trans T1;have X2:=(B2.block _ (lt_of_block X1)).trans X1;have SK2:=SK1.belowP B2;have KK2:=KK1.trans (Kp.ofBelow B2);clear c1 p0 p1 p2 p3 pf t0 t1 tf r0 r1 r2 rf z0 z1 z2 z3 zf R1 E1 T1 X1 SK1 KK1 B2;obtain⟨p0,p1,p2,p3,pf⟩:=box4 E2;obtain⟨t0,t1,tf⟩:=box2 T2;obtain⟨r0,r1,r2,rf⟩:=box3 R2.blk;obtain⟨z0,z1,z2,z3,zf⟩:=box4 X2;by_cases hlh:lv<hx
 ·have HF:Hid (PostKe w n0 rb mb (.slice (some ⟨cb,coff,none⟩) cells.length capc) c R (.returned (.bool false)) w2):=by
   rw[HR.out,if_pos (.inr hlh)];exact⟨rfl,fun s h=>(by cases h),KK2⟩
  clear HR R2 E2 T2 X2 SK2 KK2;go_wp2;go_ret;exact HF.out
 have HR2:Hid (R=(match s.2 i with|none=>some (s.1,fun j=>if j=i then some x else s.2 j)|some y=>if sameE y x=true then some s else none)):=by show R=_;rw[HR.out,if_neg (by omega)]
 clear HR;have hwf:(Lit.int .i64 (i:Nat)).wf=true:=WalkArith.wf_i64 (by omega);obtain⟨m,hm,M2⟩:=R2.mp;have hml:=M2.lt;have hrl:=lt_of_block R2.blk;have hbl:=lt_of_block E2;have hxl:=lt_of_block X2;have bdT:Below w2.heap.size w2 w2.drew:=⟨rfl,rfl,rfl,Nat.le_refl _,fun _ _=>rfl⟩
 have M2d:MpN w2.drew (Lt0 n0) mb m s.2:=M2.mono rfl (fun _ _ _=>rfl) (Nat.le_refl _);have bdA:Below w2.heap.size w2 ((w2.alloc (.cells #[.int .i64 0,.int .i64 0,.string ⟨#[]⟩,.slice none 0 0] 34)).drew):=(Below.refl _ w2).alloc (Nat.le_refl _) _ |>.trans ⟨rfl,rfl,rfl,Nat.le_refl _,fun _ _=>rfl⟩
 have M2a:MpN ((w2.alloc (.cells #[.int .i64 0,.int .i64 0,.string ⟨#[]⟩,.slice none 0 0] 34)).drew) (fun i=>i<w2.heap.size) mb m s.2:=M2.monoQ (bdA.block _ hml) (fun i _ hl=>bdA.block i hl) bdA.size (fun i _ hl=>hl);cases ht:s.2 i with
 | none =>
  obtain⟨a1,a2,a3,a4,a5,a6,lk1⟩:=M2d.miss hwf ht;obtain⟨d1,d2,d3,d4,d5,d6,lk2⟩:=M2a.miss hwf ht;have HF:Hid (∀ w3:World,Below w2.heap.size w2 w3->∃w4,(Instr.mapUpdate 168 (.map (some mb)) (.int .i64 (i:Nat)) (exN x ak ck)).run Tryz.prog w3.drew=.ok () w4/\PostKe w n0 rb mb (.slice (some ⟨cb,coff,none⟩) cells.length capc) c R (.returned (.bool true)) w4):=by
   intro w3 b3;have b3d:Below w2.heap.size w2 w3.drew:=b3.trans ⟨rfl,rfl,rfl,Nat.le_refl _,fun _ _=>rfl⟩;have M3:MpN w3.drew (Lt0 n0) mb m s.2:=M2.mono (b3d.block _ hml) (fun i _ hl=>b3d.block i hl) b3d.size;obtain⟨w4,hr4,M4,ht4⟩:=M3.put (fun h=>Nat.not_lt.2 hn0 h) i x ak ck hwf (by have:=R2.le;omega) ht (SK2.belowP b3d);have hg4:=ht4.grown;refine⟨w4,hr4,?_⟩;rw[HR2.out,ht];refine⟨rfl,fun s' hs'=>?_,KK2.trans ((Kp.ofBelow b3d).trans ⟨hg4.os,hg4.tape,hg4.output,hg4.size,fun k hk h1 h2=>hg4.block k hk (fun e=>h2 (by cases e;rfl))⟩)⟩;injection hs' with hs'
   subst hs';refine⟨(hg4.block _ (Nat.lt_of_lt_of_le hrl b3d.size) (fun e=>hne (by cases e;rfl))).trans ((b3d.block _ hrl).trans R2.blk),?_,R2.le,?_⟩
   ·exact⟨m+1,by show m+1+c<=s.1;omega,M4.mono rfl (fun _ _ _=>rfl) (Nat.le_refl _)⟩
   ·intro j y hy;simp only at hy;split at hy
    ·injection hy with hy
     subst hy;exact hfx
    ·exact R2.fit j y hy
  go_upto_region 4 with fail;go_cut [9,10] (fun v9 v10 wx=>v10=.bool false/\Below w2.heap.size w2 wx)
  case first =>
   go_wp2_with fail;go_region_held3 (fun wx=>wx.cell? ⟨bx,1,none⟩=some (.int .i64 (i:Nat))/\wx.cell? ⟨rb,1,none⟩=some (.map (some mb))) (go_keep) (fail)
   all_goals (
    have HB:Hid (∀ ob:Obj,Below w2.heap.size w2 ((w2.alloc ob).drew)):=fun ob=>(Below.refl _ w2).alloc (Nat.le_refl _) _ |>.trans ⟨rfl,rfl,rfl,Nat.le_refl _,fun _ _=>rfl⟩
    go_wp2;go_meet;exact⟨rfl,HB.out _⟩)
  case rest =>
   obtain⟨rfl,B3⟩:=hcut;obtain⟨w4,hr4,HP⟩:=HF.out wc B3;rw[exN_out] at hr4;have HQ:Hid (PostKe w n0 rb mb (.slice (some ⟨cb,coff,none⟩) cells.length capc) c R (.returned (.bool true)) w4):=HP;have p1':=(B3.cell (p:=⟨bx,1,none⟩) hbl).trans p1;have r1':=(B3.cell (p:=⟨rb,1,none⟩) hrl).trans r1;have z0':=(B3.cell (p:=⟨xb,0,none⟩) hxl).trans z0;have z1':=(B3.cell (p:=⟨xb,1,none⟩) hxl).trans z1;have z2':=(B3.cell (p:=⟨xb,2,none⟩) hxl).trans z2;have z3':=(B3.cell (p:=⟨xb,3,none⟩) hxl).trans z3;clear HF HP p0 p1 p2 p3 pf t0 t1 tf r0 r1 r2 rf z0 z1 z2 z3 zf R2 E2 T2 X2 SK2 KK2 M2 M2d M2a lk1 lk2 HR2 bdT bdA;go_wp2_with fail;go_region;go_wp2;go_ret;exact HQ.out
 | some y =>
  obtain⟨ay,cy,lk1,SY1⟩:=M2d.look hwf ht;obtain⟨ay2,cy2,lk2,SY2⟩:=M2a.look hwf ht;have hfy:=R2.fit i y ht;have HR3:Hid (R=if sameE y x=true then some s else none):=by show R=_;rw[HR2.out,ht]
  rw[exN_out] at lk1 lk2;go_upto_region 4 with fail;go_cut [9,10] (fun v9 v10 wx=>v9=.pointer (some ⟨w2.heap.size,0,none⟩)/\v10=.bool true/\Below w2.heap.size w2 wx/\∃az cz,wx.heap[w2.heap.size]?=some (.cells #[.int .i64 y.k,.int .i64 y.n,stv y.nm,.slice az y.kids.len cz] 34 (0,0))/\SnA wx y.kids az)
  case first =>
   have HB:Hid (∀ ob:Obj,Below w2.heap.size w2 ((w2.alloc ob).drew)/\((w2.alloc ob).drew).heap[w2.heap.size]?=some ob):=fun ob=>⟨(Below.refl _ w2).alloc (Nat.le_refl _) _ |>.trans ⟨rfl,rfl,rfl,Nat.le_refl _,fun _ _=>rfl⟩,heap_alloc_new w2 ob⟩;have HY1:Hid (∀ ob:Obj,SnA ((w2.alloc ob).drew) y.kids ay):=fun ob=>SlN.all (SlN.mono (w:=w2) (P:=Lt0 n0) (Q:=Lt0 n0) (fun i _ hl=>(HB.out ob).1.block i hl) (HB.out ob).1.size (fun _ h _=>h) (SlN.mono (w:=w2.drew) (w':=w2) (fun _ _ _=>rfl) (Nat.le_refl _) (fun _ h _=>h) SY1));have HY2:Hid (∀ ob:Obj,SnA ((w2.alloc ob).drew) y.kids ay2):=fun ob=>SlN.all (SlN.mono (Q:=fun i=>i<w2.heap.size) (fun i hi _=>((HB.out ob).1.block i hi).trans (bdA.block i hi).symm) (by show (w2.alloc _).heap.size<=(w2.alloc _).heap.size;simp) (fun _ h _=>h) SY2);clear SY1 SY2 M2 M2d M2a HR2 HR3;go_wp2_with fail;go_region_held3 (fun wx=>wx.cell? ⟨bx,1,none⟩=some (.int .i64 (i:Nat))/\wx.cell? ⟨rb,1,none⟩=some (.map (some mb))) (go_keep) (fail)
   ·go_wp2;go_meet;exact⟨rfl,rfl,(HB.out _).1,_,_,(HB.out _).2,HY1.out _⟩
   ·go_wp2;go_meet;exact⟨rfl,rfl,(HB.out _).1,_,_,(HB.out _).2,HY2.out _⟩
  case rest =>
   obtain⟨rfl,rfl,B3,az,cz,Z3,SZ⟩:=hcut;have c8:=samq_ok (y.kids.size+1) y x az ak cz ck wc (by omega) hfy.len hfy.sh hfx.len hfx.sh SZ (SK2.belowP B3).all;rw[exN_out,exN_out] at c8;have HF:Hid (∀ w4,Below wc.heap.size wc w4->PostKe w n0 rb mb (.slice (some ⟨cb,coff,none⟩) cells.length capc) c R (.returned (.bool (sameE y x))) w4):=by
    intro w4 b4;have b24:Below w2.heap.size w2 w4:=B3.trans (b4.mono B3.size);rw[HR3.out];cases hsm:sameE y x with
    | false=>exact⟨rfl,fun s h=>(by cases h),KK2.trans (Kp.ofBelow b24)⟩
    | true=>exact⟨rfl,fun s' h=>(by injection h with h;subst h;exact(R2.below b24).less),KK2.trans (Kp.ofBelow b24)⟩
   have z0':=(B3.cell (p:=⟨xb,0,none⟩) hxl).trans z0;have z1':=(B3.cell (p:=⟨xb,1,none⟩) hxl).trans z1;have z2':=(B3.cell (p:=⟨xb,2,none⟩) hxl).trans z2;have z3':=(B3.cell (p:=⟨xb,3,none⟩) hxl).trans z3;obtain⟨v0,v1,v2,v3,vf⟩:=box4 Z3;generalize sameE y x=sm at *;clear p0 p1 p2 p3 pf t0 t1 tf r0 r1 r2 rf z0 z1 z2 z3 zf R2 E2 T2 X2 SK2 KK2 M2 M2d M2a lk1 lk2 HR2 HR3 bdT bdA SZ SY1 SY2;go_wp2_with fail;refine c8.mono ?_;rintro z w4 ⟨rfl,B4⟩;have HQ:=HF.out w4 B4;clear c8 HF;go_wp2;go_ret;exact HQ
theorem Wd.kp {w w':World}{rb mb:Nat}(h:Wd w)(K:Kp rb mb w w')(h1:3≠rb)(h2:3≠mb):Wd w':=by
 have hl:=h.lt;obtain⟨t,fr,h⟩:=h;exact⟨t,fr,(K.block _ hl h1 h2).trans h⟩
def PostPt (w:World)(n0 rb mb:Nat)(bv:Value)(c:Nat)(r:Option (Rg × Int))(x:Ending)(w':World):Prop :=
 (∃v,x=.returned (.tuple #[v,.bool r.isSome])/\∀ s k,r=some (s,k)->PrtV v k)/\(∀ s k,r=some (s,k)->RD w' n0 rb mb bv c s)/\Kp rb mb w w'
def PartPOk (N:Nat):Prop:=∀ (e:Ex) (ao:Option Addr) (cap n0 rb mb:Nat) (bv:Value) (cells:List Int) (ar wi:Nat) (s:Rg) (c:Nat) (w:World),e.kids.size<N->FitN e->wi<=5->ar<=wi->cells.length<=256->rb≠mb->n0<=rb->n0<=mb->3<n0->Wd w->RD w n0 rb mb bv c s->Inw w (Lt0 n0) bv cells->SlN w (Lt0 n0) e.kids ao ->
 Calls Tryz.prog 120 #[.pointer (some ⟨rb,0,none⟩),exN e ao cap,.agg #[.int .i64 (ar:Nat),.int .i64 (wi:Nat)]] w (PostPt w n0 rb mb bv c (rgE cells e ar wi s))
def finP (cells:List Int)(e:Ex)(ar:Nat)(s1:Rg)(kd:List Int):Option (Rg × Int) :=
 if (formP e.k e.n kd).2=0\/(formP e.k e.n kd).1≠kd then none else
  match (if e.k=26 then keepP cells e.n e.kids ar s1 else some s1) with
  | none=>none
  | some s2=>some (s2,(formP e.k e.n kd).2)
def bothP (cells:List Int)(e:Ex)(ar wi:Nat)(r:Fs)(i:Nat)(s:Rg)(ds:List Int):Option (Rg × Int) :=
 match rgF cells r e.k i ar wi s with
 | none=>none
 | some (s1,kd)=>finP cells e ar s1 (ds++kd)
theorem rgE_both {cells:List Int}{e:Ex}{ar wi:Nat}{s:Rg}(h:gdE cells e ar wi s):rgE cells e ar wi s=bothP cells e ar wi e.kids 0 (s.1+1,s.2) []:=by
 unfold rgE bothP;rw[if_neg h];rfl
theorem both_nil {cells:List Int}{e:Ex}{ar wi i:Nat}{s:Rg}{ds:List Int}:bothP cells e ar wi .nil i s ds=finP cells e ar s ds:=by
 unfold bothP;simp only[rgF,List.append_nil]
theorem both_cons {cells:List Int}{e x:Ex}{r:Fs}{ar wi i:Nat}{s:Rg}{ds:List Int}:bothP cells e ar wi (Fs.ex x r) i s ds=(match rgE cells x (spotP e.k i ar wi).1 (spotP e.k i ar wi).2 s with|none=>none|some (s2,k)=>bothP cells e ar wi r (i+1) s2 (ds++[k])):=by
 unfold bothP;rw[rg_ex];cases rgE cells x (spotP e.k i ar wi).1 (spotP e.k i ar wi).2 s with
 | none=>rfl
 | some z =>
  obtain⟨s2,k⟩:=z;simp only;cases rgF cells r e.k (i+1) ar wi s2 with
  | none=>rfl
  | some z =>
   obtain⟨s3,rest⟩:=z;simp only[List.append_assoc,List.cons_append,List.nil_append]
theorem keepP_cnt {cells:List Int}{n:Int}{ks:Fs}{ar:Nat}{s s':Rg}(h:keepP cells n ks ar s=some s'):s'.1=s.1:=by
 unfold keepP at h;split at h
 ·cases h
 ·split at h
  ·cases h
  ·split at h
   ·injection h with h
    rw[<-h]
   ·split at h
    ·injection h with h
     rw[<-h]
    ·cases h
theorem rgF_cnt (cells:List Int):∀ (f:Fs) (pk:Int) (i ar wi:Nat) (s s':Rg) (kd:List Int),rgF cells f pk i ar wi s=some (s',kd)->s.1+f.len<=s'.1
 | ⟨none⟩,pk,i,ar,wi,s,s',kd,h=>by
  simp only[rgF] at h;injection h with h
  injection h with h1 h2
  subst h1;exact Nat.le_refl _
 | ⟨some ⟨k,n,nm,a,ks,r⟩⟩,pk,i,ar,wi,s,s',kd,h=>by
  have h0:rgF cells ⟨some ⟨k,n,nm,a,ks,r⟩⟩ pk i ar wi s=_:=rg_ex cells ⟨k,n,nm,a,ks⟩ r pk i ar wi s;rw[h0] at h;cases hx:rgE cells ⟨k,n,nm,a,ks⟩ (spotP pk i ar wi).1 (spotP pk i ar wi).2 s with
  | none=>rw[hx] at h;cases h
  | some z =>
   obtain⟨s2,k2⟩:=z;rw[hx] at h;simp only at h;cases hr:rgF cells r pk (i+1) ar wi s2 with
   | none=>rw[hr] at h;cases h
   | some z =>
    obtain⟨s3,rest⟩:=z;rw[hr] at h;injection h with h
    injection h with h1 h2
    subst h1;have h3:=rgF_cnt cells r pk (i+1) ar wi s2 s3 rest hr;obtain⟨-,s1,kd1,hk,-,-,-,-,hkp⟩:=rgE_inv hx;have h4:=rgF_cnt cells ks k 0 _ _ _ _ _ hk;have h5:s2.1=s1.1:=by
     simp only at hkp;split at hkp
     ·exact keepP_cnt hkp
     ·injection hkp with hkp
      rw[hkp]
    simp only at h4;simp only[Fs.len];omega
theorem rgE_cnt {cells:List Int}{e:Ex}{ar wi:Nat}{s s':Rg}{k:Int}(h:rgE cells e ar wi s=some (s',k)):s.1+1<=s'.1:=by
 obtain⟨-,s1,kd1,hk,-,-,-,-,hkp⟩:=rgE_inv h;have h4:=rgF_cnt cells _ _ 0 _ _ _ _ _ hk;have h5:s'.1=s1.1:=by
  split at hkp
  ·exact keepP_cnt hkp
  ·injection hkp with hkp
   rw[hkp]
 simp only at h4;omega
theorem Fs.snoc_nv:∀ {f:Fs}{x:Ex},f.nv->x.nv->(f.snoc x).nv
 | ⟨none⟩,x,h,k=>⟨k.1,k.2,trivial⟩
 | ⟨some ⟨i,n,nm,a,ks,r⟩⟩,x,h,k=>⟨h.1,h.2.1,Fs.snoc_nv (f:=r) h.2.2 k⟩
theorem Row.inA {w:World}{o:Nat->Nat}{i:Nat}{v:Value}{n:Nat}{ds:List Int}(h:Row w o i 3 1 v n (ds.map (Value.int .i64)))(hl:ds.length=n):InA w v ds:=by
 subst hl;rcases Nat.eq_zero_or_pos ds.length with h0|h0
 ·obtain⟨ao,cap,rfl⟩:=h.form;exact⟨ao,cap,rfl,.inl (List.eq_nil_of_length_eq_zero h0)⟩
 ·obtain⟨g,cap,rfl,-,-,-,hg,hc,-⟩:=h.pos h0;refine⟨_,cap,rfl,.inr ⟨g,0,rfl,trivial,hg,fun j x hx=>?_⟩⟩;have hj:j<ds.length:=by
   rcases Nat.lt_or_ge j ds.length with h1|h1
   ·exact h1
   ·rw[List.getElem?_eq_none h1] at hx;cases hx
  rw[Nat.zero_add,hc j (by omega)];simp[hx]
theorem Row.pks {w:World}{o:Nat->Nat}{i:Nat}{v:Value}{n:Nat}{ps:List Value}(h:Row w o i 126 1 v n ps)(hp:∀ u,u ∈ ps->∃ty x,u=.iface ty x):PKs w v n:=by
 rcases Nat.eq_zero_or_pos n with h0|h0
 ·obtain⟨ao,cap,rfl⟩:=h.form;exact⟨ao,cap,rfl,.inl h0⟩
 ·have hlen:=h.len;obtain⟨g,cap,rfl,-,-,-,hg,hc,-⟩:=h.pos h0;refine⟨_,cap,rfl,.inr ⟨g,0,rfl,hg,fun j hj=>?_⟩⟩;have hx:ps[j]?=some (ps[j]'(by omega)):=List.getElem?_eq_getElem (by omega);obtain⟨ty,u,hu⟩:=hp _ (List.mem_of_getElem? hx);refine⟨ty,u,?_⟩;rw[Nat.zero_add,hc j (by omega),hx,hu]
theorem PKs.below {w w':World}{v:Value}{n:Nat}(h:PKs w v n)(b:Below w.heap.size w w'):PKs w' v n:=by
 obtain⟨ak,ck,rfl,h⟩:=h;refine⟨ak,ck,rfl,?_⟩;rcases h with h|⟨g,off,rfl,hg,hc⟩
 ·exact .inl h
 ·refine .inr ⟨g,off,rfl,Nat.lt_of_lt_of_le hg b.size,fun j hj=>?_⟩;obtain⟨ty,u,hu⟩:=hc j hj;exact⟨ty,u,(b.cell (p:=⟨g,off+j,none⟩) hg).trans hu⟩
theorem formP_len (k n:Int)(ds:List Int):(formP k n ds).1.length<=3+ds.length:=by
 have hi:∀ (P:Prop) [Decidable P] (a b:List Int × Int),a.1.length<=3+ds.length->b.1.length<=3+ds.length->(if P then a else b).1.length<=3+ds.length:=by
  intro P _ a b ha hb;split
  ·exact ha
  ·exact hb
 unfold formP
 repeat' apply hi
 all_goals (simp<;>omega)
theorem PKs.kp {rb mb:Nat}{w w':World}{ak:Option Addr}{ck n:Nat}(h:PKs w (.slice ak n ck) n)(K:Kp rb mb w w')(hg:0<n->∀ g off,ak=some ⟨g,off,none⟩->g≠rb/\g≠mb):PKs w' (.slice ak n ck) n:=by
 obtain⟨ak',ck',he,h⟩:=h;injection he with h1 h2 h3
 subst h1;subst h3;refine⟨ak,ck,rfl,?_⟩;rcases h with h|⟨g,off,rfl,hgl,hc⟩
 ·exact .inl h
 ·rcases Nat.eq_zero_or_pos n with h0|h0
  ·exact .inl h0
  ·obtain⟨g1,g2⟩:=hg h0 g off rfl;refine .inr ⟨g,off,rfl,Nat.lt_of_lt_of_le hgl K.size,fun j hj=>?_⟩;obtain⟨ty,u,hu⟩:=hc j hj;exact⟨ty,u,(K.cell hgl g1 g2 _).trans hu⟩
theorem set3r {w:World}{b:Nat}{a0 a1 a2:Value}{t:TypeId}(h:w.heap[b]?=some (.cells #[a0,a1,a2] t (0,0)))(v:Value):(w.setCell ⟨b,2,none⟩ v).heap[b]?=some (.cells #[a0,a1,v] t (0,0)) :=
 (Blk.set (o:=fun _=>0) (i:=0) ⟨h,rfl⟩ 2 v).1
theorem infoPart:(Tryz.prog.info? 126).map (fun i=>(i.zero,i.size,i.bytes))=some (some .nilIface,1,16):=by kernel_rfl
theorem Kp.step {rb mb i:Nat}{a w w':World}{o o':Nat->Nat}(K:Kp rb mb a w)(s:Step (fun k=>k=i) w o w' o')(h:∀ k,k<a.heap.size->o k≠i):Kp rb mb a w' :=
 ⟨s.os.trans K.os,s.tape.trans K.tape,s.output.trans K.output,Nat.le_trans K.size s.size,fun k hk h1 h2=>(s.block k (by have:=K.size;omega) (h k hk)).trans (K.block k hk h1 h2)⟩
theorem Kp.toStep {rb mb:Nat}{w w':World}{o:Nat->Nat}(K:Kp rb mb w w')(h1:o rb=1)(h2:o mb=1):Step (fun k=>k=1) w o w' (newLab w o 0) :=
 ⟨K.os,K.tape,K.output,K.size,fun k hk=>newLab_old hk,fun k hk hn=>K.block k hk (fun e=>hn (by rw[e];exact h1)) (fun e=>hn (by rw[e];exact h2))⟩
theorem Below.toStep {w w':World}{o:Nat->Nat}{I:Nat->Prop}(b:Below w.heap.size w w'):Step I w o w' (newLab w o 0):=⟨b.os,b.tape,b.output,b.size,fun k hk=>newLab_old hk,fun k hk _=>b.block k hk⟩
theorem RD.step {w w':World}{n0 rb mb c i:Nat}{bv:Value}{s:Rg}{o o':Nat->Nat}(h:RD w n0 rb mb bv c s)(st:Step (fun k=>k=i) w o w' o')(h1:o rb≠i)(h2:o mb≠i)(h3:∀ k,k<n0->o k≠i):RD w' n0 rb mb bv c s:=by
 refine⟨(st.block _ (lt_of_block h.blk) h1).trans h.blk,?_,h.le,h.fit⟩;obtain⟨m,hm,hp⟩:=h.mp;exact⟨m,hm,hp.mono (st.block _ hp.lt h2) (fun k hk hl=>st.block k hl (h3 k hk)) st.size⟩
theorem part_step2 {N:Nat}(IH:PartPOk N):PartPOk (N+1):=by
 intro e ao cap n0 rb mb bv cells ar wi s c w hN hf hwi har hcl hne hr0 hm0 hG hWd h hn S;obtain⟨k0,n,nm,a,f⟩:=e;simp only at hN S;have hin:=hn;obtain⟨aoc,capc,hbv,-⟩:=hin;subst hbv;have hlen:=hf.len;simp only at hlen;obtain⟨Z,hZ⟩:∃Z,Z=rgE cells ⟨k0,n,nm,a,f⟩ ar wi s:=⟨_,rfl⟩
 rw[<-hZ];have HZ:Hid (Z=rgE cells ⟨k0,n,nm,a,f⟩ ar wi s):=hZ;clear hZ;obtain⟨w0,hw0⟩:∃w0,w0=(w.alloc (.cells #[.int .i64 k0,.int .i64 n,stv nm,.slice ao f.len cap] 34)).alloc (.cells #[.int .i64 (ar:Nat),.int .i64 (wi:Nat)] 173):=⟨_,rfl⟩
 have B0:Below w.heap.size w w0:=by rw[hw0];exact((Below.refl _ w).alloc (Nat.le_refl _) _).alloc (by simp) _
 have E0:w0.heap[w.heap.size]?=some (.cells #[.int .i64 k0,.int .i64 n,stv nm,.slice ao f.len cap] 34):=by
  rw[hw0];exact(Below.heap_alloc _ _ _ (by simp)).trans (heap_alloc_new w _)
 have T0:w0.heap[w.heap.size+1]?=some (.cells #[.int .i64 (ar:Nat),.int .i64 (wi:Nat)] 173):=by
  rw[hw0]
  have:=heap_alloc_new (w.alloc (.cells #[.int .i64 k0,.int .i64 n,stv nm,.slice ao f.len cap] 34)) (.cells #[.int .i64 (ar:Nat),.int .i64 (wi:Nat)] 173)
  simpa using this
 have R0:=h.below B0;have hrl:=lt_of_block h.blk;have hml:=h.ltm;have KK:Kp rb mb w w0:=Kp.ofBelow B0;rw[exN_out];go_enter Tryz.func120,Tryz.ntmps120;go_upto_region 1 with fail;rw[<-hw0];obtain⟨bx,hbx⟩:∃bx,bx=w.heap.size:=⟨_,rfl⟩
 rw[<-hbx] at E0 T0 ⊢;have HBX:Hid (bx=w.heap.size):=hbx;have hb1:bx≠rb:=by omega
 have hb2:bx≠mb:=by omega
 have hs1:bx+1≠rb:=by omega
 have hs2:bx+1≠mb:=by omega
 have hn0w:n0<=w.heap.size:=by omega
 clear hbx hw0 hrl hml h;obtain⟨r0,r1,r2,rf⟩:=box3 R0.blk;have hs:=R0.le;have F1:=set3r R0.blk (.int .i64 ((s.1:Int)+1));have K1:=KK.set ⟨rb,2,none⟩ (.int .i64 ((s.1:Int)+1)) (.inr (.inl rfl));have E1:=(heap_setCell_other w0 ⟨rb,2,none⟩ bx (.int .i64 ((s.1:Int)+1)) hb1).trans E0;have T1:=(heap_setCell_other w0 ⟨rb,2,none⟩ (bx+1) (.int .i64 ((s.1:Int)+1)) hs1).trans T0;have M1:∃m,m+c<=s.1/\MpN (w0.setCell ⟨rb,2,none⟩ (.int .i64 ((s.1:Int)+1))) (Lt0 n0) mb m s.2:=by
  obtain⟨m,hm,hp⟩:=R0.mp;exact⟨m,hm,hp.mono (heap_setCell_other w0 _ _ _ (Ne.symm hne)) (fun k hk hl=>heap_setCell_other w0 _ k _ (by have hk:k<n0:=hk;show k≠rb;omega)) (by simp)⟩
 have hfit:=R0.fit;clear B0 E0 T0 KK R0;go_upto_region 2 with fail;generalize w0.setCell ⟨rb,2,none⟩ (.int .i64 ((s.1:Int)+1))=w1 at *;clear r0 r1 r2 rf;obtain⟨r0,r1,r2,rf⟩:=box3 F1;obtain⟨p0,p1,p2,p3,pf⟩:=box4 E1;obtain⟨t0,t1,tf⟩:=box2 T1;have BAD:∀ {w2:World},Z=none->Below w1.heap.size w1 w2->Hid (PostPt w n0 rb mb (.slice aoc cells.length capc) c Z (.returned (.tuple #[.nilIface,.bool false])) w2):=by
  intro w2 hz b2;rw[hz];exact⟨⟨_,rfl,fun s k h=>(by cases h)⟩,fun s k h=>(by cases h),K1.trans (Kp.ofBelow b2)⟩
 by_cases hq1:4096<s.1+1
 ·have HR:=BAD (by rw[HZ.out];exact gd_bad (fun hg=>hg (.inl hq1))) (Below.refl _ w1);have hI:(4096:Int)<(s.1:Int)+1:=by omega
  clear BAD HZ M1 E1 T1 F1 K1;go_wp2;exact bodyPost_ret (v:=.tuple #[.nilIface,.bool false]) (by simp[results,Tryz.results120,go_sem]) rfl HR.out
 have hI:¬(4096:Int)<(s.1:Int)+1:=by omega
 by_cases hq2:4<wi
 ·have HR:=BAD (by rw[HZ.out];exact gd_bad (fun hg=>hg (.inr (.inl hq2)))) (Below.refl _ w1);have hJ:(4:Int)<(wi:Int):=by omega
  clear BAD HZ M1 E1 T1 F1 K1;go_wp2;exact bodyPost_ret (v:=.tuple #[.nilIface,.bool false]) (by simp[results,Tryz.results120,go_sem]) rfl HR.out
 have hJ:¬(4:Int)<(wi:Int):=by omega
 have hWd1:Wd w1:=hWd.kp K1 (by omega) (by omega);have c1:=holdsname_c ⟨k0,n,nm,a,f⟩ ao cap w1 hWd1 hf.nm;rw[exN_out] at c1;simp only at c1;go_wp2_with fail;refine c1.mono ?_;rintro z w2 ⟨rfl,b2⟩;have F2:=(b2.block _ (lt_of_block F1)).trans F1;have E2:=(b2.block _ (lt_of_block E1)).trans E1;have T2:=(b2.block _ (lt_of_block T1)).trans T1;cases hnmP:nmP k0 nm with
 | false =>
  have HR:=BAD (by rw[HZ.out];exact gd_bad (fun hg=>hg (.inr (.inr (.inl hnmP))))) b2;clear c1 BAD HZ M1 E1 T1 F1 K1 p0 p1 p2 p3 pf t0 t1 tf r0 r1 r2 rf;obtain⟨p0,p1,p2,p3,pf⟩:=box4 E2;obtain⟨t0,t1,tf⟩:=box2 T2;clear E2 T2 F2;go_wp2;exact bodyPost_ret (v:=.tuple #[.nilIface,.bool false]) (by simp[results,Tryz.results120,go_sem]) rfl HR.out
 | true =>
 have c2:=holdsnumber_c ⟨k0,n,nm,a,f⟩ ao cap ar wi rb cells.length w2 aoc capc _ _ F2;rw[exN_out] at c2;simp only at c2;clear c1 p0 p1 p2 p3 pf t0 t1 tf r0 r1 r2 rf;obtain⟨p0,p1,p2,p3,pf⟩:=box4 E2;obtain⟨t0,t1,tf⟩:=box2 T2;go_wp2_with fail;refine c2.mono ?_;rintro z w3 ⟨rfl,b3⟩;have b13:Below w1.heap.size w1 w3:=b2.trans (b3.mono b2.size);have F3:=(b3.block _ (lt_of_block F2)).trans F2;have E3:=(b3.block _ (lt_of_block E2)).trans E2;have T3:=(b3.block _ (lt_of_block T2)).trans T2;clear c2 p0 p1 p2 p3 pf t0 t1 tf F2 E2 T2;cases hnuP:nuP cells.length k0 n ar with
 | false =>
  have HR:=BAD (by rw[HZ.out];exact gd_bad (fun hg=>hg (.inr (.inr (.inr hnuP))))) b13;obtain⟨p0,p1,p2,p3,pf⟩:=box4 E3;obtain⟨t0,t1,tf⟩:=box2 T3;clear BAD HZ M1 E1 T1 F1 K1 E3 T3 F3;go_wp2;exact bodyPost_ret (v:=.tuple #[.nilIface,.bool false]) (by simp[results,Tryz.results120,go_sem]) rfl HR.out
 | true =>
 have hgd:gdE cells ⟨k0,n,nm,a,f⟩ ar wi s:=by
  rintro (h|h|h|h)
  ·omega
  ·omega
  ·simp only at h;rw[hnmP] at h;cases h
  ·simp only at h;rw[hnuP] at h;cases h
 have HZ2:Hid (bothP cells ⟨k0,n,nm,a,f⟩ ar wi f 0 (s.1+1,s.2) []=Z):=(HZ.out.trans (rgE_both hgd)).symm;have K3:=K1.trans (Kp.ofBelow b13);have R3:RD w3 n0 rb mb (.slice aoc cells.length capc) (c+1) (s.1+1,s.2):=by
  refine⟨F3,?_,by show s.1+1<=4096;omega,hfit⟩;obtain⟨m,hm,hp⟩:=M1;exact⟨m,by show m+(c+1)<=s.1+1;omega,hp.mono (b13.block _ hp.lt) (fun k _ hl=>b13.block k hl) b13.size⟩
 have hnum:Hid (nuP cells.length k0 n ar=true):=hnuP;clear BAD HZ M1 E1 T1 F1 K1 F3 b2 b3 b13 hgd hnmP hnuP hWd1;obtain⟨o3,ho3⟩:∃o3:Nat->Nat,o3=fun k=>if k=rb\/k=mb then 1 else 0:=⟨_,rfl⟩
 have or3:o3 rb=1:=by rw[ho3];simp
 have om3:o3 mb=1:=by rw[ho3];simp
 have ol3:∀ k,k≠rb->k≠mb->o3 k=0:=fun k h1 h2=>by rw[ho3];simp[h1,h2]
 have ob3:∀ k,o3 k<=1:=fun k=>by rw[ho3];simp only;split<;>omega
 have BE3:Blk w3 o3 0 bx (.cells #[.int .i64 k0,.int .i64 n,stv nm,.slice ao f.len cap] 34 (0,0)):=⟨E3,ol3 _ hb1 hb2⟩
 have BT3:Blk w3 o3 0 (bx+1) (.cells #[.int .i64 (ar:Nat),.int .i64 (wi:Nat)] 173 (0,0)):=⟨T3,ol3 _ hs1 hs2⟩
 have L3:Hid (∀ k,k<w.heap.size->o3 k<=1):=fun k _=>ob3 k;clear ho3 ol3 ob3 E3 T3;have hbig:f.len<=1000000000:=hlen;obtain⟨ip,hip,hzp0,hzp1,hzp2⟩:=info_parts infoPart;obtain⟨ii,hii,hzi0,hzi1,hzi2⟩:=info_parts infoInt;obtain⟨p0,p1,p2,p3,pf⟩:=box4 BE3.1;go_wp2;go_loopw [8,9,47] (fun v8 v9 v47 wr=>∃(d r:Fs) (o:Nat->Nat) (ps:List Value) (ds:List Int) (s1:Rg),Hid (f=d.app r)/\v47=.int .i64 (d.len:Nat)/\Row wr o 2 126 1 v8 d.len ps/\Hid (∀ u,u ∈ ps->∃ty x,u=.iface ty x)/\Row wr o 3 3 1 v9 d.len (ds.map (Value.int .i64))/\ds.length=d.len/\d.len<=s1.1/\Hid d.nv/\RD wr n0 rb mb (.slice aoc cells.length capc) (c+1) s1/\o rb=1/\o mb=1/\Blk wr o 0 bx (.cells #[.int .i64 k0,.int .i64 n,stv nm,.slice ao f.len cap] 34 (0,0))/\Blk wr o 0 (bx+1) (.cells #[.int .i64 (ar:Nat),.int .i64 (wi:Nat)] 173 (0,0))/\Hid (∀ k,k<w.heap.size->o k<=1)/\Kp rb mb w wr/\Hid (bothP cells ⟨k0,n,nm,a,f⟩ ar wi r d.len s1 ds=Z)) (fun _ _ v47 _=>f.len-(intOf v47).toNat)
 case atStart=>exact⟨.nil,f,o3,[],[],_,rfl,by show _=Value.int .i64 ((0:Nat):Int);rfl,Row.nil _ _ _ _ _,fun u hu=>(by cases hu),Row.nil _ _ _ _ _,rfl,Nat.zero_le _,trivial,R3,or3,om3,BE3,BT3,L3,K3,HZ2.out⟩
 case round =>
  clear BE3 BT3 L3 R3 K3 HZ2 or3 om3 p0 p1 p2 p3 pf;obtain⟨d,r,o,ps,ds,s1,hk,rfl,R8,hps,R9,hdl,hds,hnv,RD1,or1,om1,BE1,BT1,L1,K1,HA⟩:=hrel;have hlk:f.len=d.len+r.len:=by rw[hk.out,Fs.len_app]
  obtain⟨p0,p1,p2,p3,pf⟩:=box4 BE1.1;obtain⟨t0,t1,tf⟩:=box2 BT1.1;cases r using Fs.on with
  | nil =>
   have hlt:¬(d.len:Int)<(f.len:Int):=by simp only[Fs.len] at hlk;omega
   have HA2:Hid (finP cells ⟨k0,n,nm,a,f⟩ ar s1 ds=Z):=by show _=Z;rw[<-HA.out];exact both_nil.symm
   clear HA;have hfd:Hid (f=d):=by show f=d;rw[hk.out];exact app_nil' d
   have hfl:Hid (d.len=f.len):=by show d.len=f.len;rw[hfd.out]
   have HDL:Hid (ds.length=d.len):=hdl;have hle:=RD1.le;have I9:=R9.inA hdl;have P8:=R8.pks hps.out;obtain⟨a9,c9,rfl⟩:=R9.form;obtain⟨a8,c8,rfl⟩:=R8.form;have HQ8:Hid (0<d.len->∀ g of,a8=some ⟨g,of,none⟩->g≠rb/\g≠mb):=by
    intro hd g of ha;obtain⟨g',cap',he,ho,-⟩:=R8.pos hd;injection he with he
    rw[ha] at he;injection he with he
    injection he with he1 he2
    subst he1;exact⟨fun h=>(by rw[h,or1] at ho;cases ho),fun h=>(by rw[h,om1] at ho;cases ho)⟩
   have E1:=BE1.1;have T1:=BT1.1;have S1:SlN wr (Lt0 n0) f ao:=S.mono (fun i hp hl=>K1.block i hl (by have hp:i<n0:=hp;omega) (by have hp:i<n0:=hp;omega)) K1.size (fun _ h _=>h);have N1:Inw wr (Lt0 n0) (.slice aoc cells.length capc) cells:=hn.mono (fun i hp hl=>K1.block i hl (by have hp:i<n0:=hp;omega) (by have hp:i<n0:=hp;omega)) K1.size (fun _ h _=>h);have c1:=formof_c k0 n nm a f ao cap wr _ ds I9 (by omega);rw[exN_out] at c1;simp only at c1;clear R8 R9 BE1 BT1 or1 om1 L1 hps hlk hdl;obtain⟨pp,hpp⟩:∃pp,pp=formP k0 n ds:=⟨_,rfl⟩
   rw[<-hpp] at c1;have HP:Hid (pp=formP k0 n ds):=hpp;clear hpp;obtain⟨xs,is⟩:=pp;go_wp2_with fail;refine c1.mono ?_;rintro z w2 ⟨lv,rfl,L2,b2⟩;simp only at L2;obtain⟨al,cl,hlv,hlx⟩:=L2;have L2:Inw w2 (Nw wr.heap.size) lv xs:=⟨al,cl,hlv,hlx⟩
   subst hlv;clear hlx;have RDb1:rb<w2.heap.size:=Nat.lt_of_lt_of_le (lt_of_block RD1.blk) b2.size;have RDb2:mb<w2.heap.size:=Nat.lt_of_lt_of_le RD1.ltm b2.size;have b3:Below wr.heap.size wr (w2.alloc (.cells #[.slice al xs.length cl,.int .i64 is] 211)):=b2.alloc b2.size _;have b23:Below w2.heap.size w2 (w2.alloc (.cells #[.slice al xs.length cl,.int .i64 is] 211)):=(Below.refl _ w2).alloc (Nat.le_refl _) _;have X3:(w2.alloc (.cells #[.slice al xs.length cl,.int .i64 is] 211)).heap[w2.heap.size]?=some (.cells #[.slice al xs.length cl,.int .i64 is] 211 (0,0)):=heap_alloc_new w2 _;have L3:=L2.below b23;have I93:=I9.below b3;have P83:=P8.below b3;have E3:=(b3.block _ (lt_of_block E1)).trans E1;have T3:=(b3.block _ (lt_of_block T1)).trans T1;have RD3:=RD1.below b3;have S3:=S1.belowP b3;have N3:=N1.below b3;have K3:=K1.trans (Kp.ofBelow b3);clear c1 p0 p1 p2 p3 pf t0 t1 tf E1 T1 RD1 S1 N1 K1 I9 P8 L2 b2 b3 b23;go_upto_region 15 with fail;generalize w2.alloc (.cells #[.slice al xs.length cl,.int .i64 is] 211)=w3 at *;have hfb1:w2.heap.size≠rb:=by have:=RDb1;omega
   have hfb2:w2.heap.size≠mb:=by have:=RDb2;omega
   clear RDb1 RDb2;generalize w2.heap.size=fb at *;obtain⟨p0,p1,p2,p3,pf⟩:=box4 E3;obtain⟨t0,t1,tf⟩:=box2 T3;obtain⟨y0,y1,yf⟩:=box2 X3;have HFIN:Hid (Z=if is=0\/xs≠ds then none else match (if k0=26 then keepP cells n f ar s1 else some s1) with|none=>none|some s2=>some (s2,is)):=by
    show Z=_;rw[<-HA2.out];unfold finP;simp only;rw[<-HP.out]
   clear HA2;have BAD:∀ {w4:World},Z=none->Kp rb mb w3 w4->Hid (PostPt w n0 rb mb (.slice aoc cells.length capc) c Z (.returned (.tuple #[.nilIface,.bool false])) w4):=by
    intro w4 hz k4;rw[hz];exact⟨⟨_,rfl,fun s k h=>(by cases h)⟩,fun s k h=>(by cases h),K3.trans k4⟩
   have hxl:Hid (xs.length<=1000000000):=by
    show xs.length<=1000000000;have h1:=formP_len k0 n ds;rw[<-HP.out] at h1;have h2:=HDL.out;simp only at h1;omega
   by_cases his:is=0
   ·have hb0:(is==0)=true:=by simpa using his
    have HR:=BAD (by rw[HFIN.out,if_pos (.inl his)]) (Kp.refl _ _ w3);clear BAD HFIN HP RD3 S3 N3 K3 I93 P83 L3 E3 T3 X3 his;go_wp2;exact bodyPost_ret (v:=.tuple #[.nilIface,.bool false]) (by simp[results,Tryz.results120,go_sem]) rfl HR.out
   have hb0:(is==0)=false:=by simpa using his
   have c2:=eqints_c w3 _ _ xs ds (L3.mono (fun _ _ _=>rfl) (Nat.le_refl _) (fun _ _ _=>trivial)) I93 (hxl.out);obtain⟨sm,hsm⟩:∃sm,sm=decide (xs=ds):=⟨_,rfl⟩
   rw[<-hsm] at c2;have HSM:Hid (sm=decide (xs=ds)):=hsm;clear hsm;go_wp2_with fail;refine c2.mono ?_;rintro z w4 ⟨rfl,b4⟩;have E4:=(b4.block _ (lt_of_block E3)).trans E3;have T4:=(b4.block _ (lt_of_block T3)).trans T3;have X4:=(b4.block _ (lt_of_block X3)).trans X3;have RD4:=RD3.below b4;have S4:=S3.belowP b4;have N4:=N3.below b4;have P84:=P83.below b4;have K4:=K3.trans (Kp.ofBelow b4);cases sm with
   | false =>
    have hxd:xs≠ds:=of_decide_eq_false HSM.out.symm;have HR:=BAD (by rw[HFIN.out,if_pos (.inr hxd)]) (Kp.ofBelow b4);clear c2 BAD HFIN HP RD3 S3 N3 K3 I93 P83 L3 E3 T3 X3 his hxd p0 p1 p2 p3 pf t0 t1 tf y0 y1 yf E4 T4 X4 RD4 S4 N4 P84 K4 b4 HSM;go_wp2;exact bodyPost_ret (v:=.tuple #[.nilIface,.bool false]) (by simp[results,Tryz.results120,go_sem]) rfl HR.out
   | true =>
   have hxd:xs=ds:=of_decide_eq_true HSM.out.symm;have HFIN2:Hid (Z=match (if k0=26 then keepP cells n f ar s1 else some s1) with|none=>none|some s2=>some (s2,is)):=by show Z=_;rw[HFIN.out,if_neg (by rintro (h|h);exact his h;exact h hxd)]
   have hnk:Hid ((k0=17\/k0=18\/k0=21->d.len=2)/\(k0=19->d.len=3)/\(k0=24\/k0=26->d.len=1)):=by
    have hx:d.len=(formP k0 n ds).1.length:=by rw[<-HP.out];show d.len=xs.length;rw[hxd,HDL.out]
    refine⟨?_,?_,?_⟩
    ·rintro (rfl|rfl|rfl)
     ·rw[hx];rfl
     ·rw[hx];rfl
     ·rw[hx,form_quant];unfold qfP;split
      ·rfl
      ·split<;>rfl
    ·rintro rfl;rw[hx];rfl
    ·rintro (rfl|rfl)
     ·rw[hx];rfl
     ·rw[hx];rfl
   have LAID:∀ w5,PKs w5 (.slice a8 d.len c8) d.len->Calls Tryz.prog 186 #[.agg #[.int .i64 k0,.int .i64 n,stv nm,.slice ao f.len cap],.agg #[.int .i64 is],.slice a8 d.len c8,.int .i64 (ar:Nat)] w5 fun x w'=>(∃v,x=.returned v/\PrtV v is)/\Below w5.heap.size w5 w':=fun w5 hp=>laid_c k0 n nm f ao cap is _ d.len ar w5 hp hnk.out.1 hnk.out.2.1 hnk.out.2.2;clear c2 BAD HFIN HP RD3 S3 N3 K3 I93 P83 L3 E3 T3 X3 his hxd p0 p1 p2 p3 pf t0 t1 tf y0 y1 yf b4 HSM;obtain⟨p0,p1,p2,p3,pf⟩:=box4 E4;obtain⟨t0,t1,tf⟩:=box2 T4;obtain⟨y0,y1,yf⟩:=box2 X4;by_cases h26:k0=26
   ·subst h26;have hd1:=hnk.out.2.2 (.inr rfl);obtain⟨x,hx⟩:=len1 (hfl.out.symm.trans hd1);have hnu:=hnum.out;have hin:0<=n/\n<(cells.length:Int):=by simp[nuP] at hnu;omega
    obtain⟨i,rfl⟩:∃i:Nat,n=(i:Nat):=⟨n.toNat,by omega⟩
    have hxnv:x.nv:=by
     have:=hnv.out
     rw[<-hfd.out,hx] at this;exact⟨this.1,this.2.1⟩
    have hfx:FitN x:=FitN.kid (e:=⟨26,(i:Nat),nm,a,f⟩) (d:=.nil) hf hx;have S4x:SlN w4 (Lt0 n0) (Fs.ex x .nil) ao:=by rw[<-hx];exact S4
    have c3:=keeps_c 26 i nm x ao cap n0 rb mb _ cells ar wi s1 w4 (by omega) hcl hfx hxnv (by omega) (by omega) hne hm0 c RD4 N4 S4x;have hl1:f.len=1:=by rw[hx];rfl
    have hk26:Hid (Z=match keepP cells (i:Nat) (Fs.ex x .nil) ar s1 with|none=>none|some s2=>some (s2,is)):=by show Z=_;rw[HFIN2.out,if_pos rfl,hx]
    rw[<-hl1] at c3;generalize keepP cells (i:Nat) (Fs.ex x .nil) ar s1=R at *;have HD1:Hid (d.len=1):=hd1;clear HFIN2 S4 N4 S4x hxnv hfx hnu hin hl1 hx hd1 hnum hfd;go_wp2_with fail;refine c3.mono ?_;rintro z w5 ⟨rfl,hR5,K5⟩;have KW5:=K4.trans K5;have P85:=P84.kp K5 HQ8.out;have E5:=(K5.block _ (lt_of_block E4) hb1 hb2).trans E4;have T5:=(K5.block _ (lt_of_block T4) hs1 hs2).trans T4;have X5:=(K5.block _ (lt_of_block X4) hfb1 hfb2).trans X4;clear c3 K4 K5 P84 E4 T4 X4 RD4 p0 p1 p2 p3 pf t0 t1 tf y0 y1 yf;obtain⟨p0,p1,p2,p3,pf⟩:=box4 E5;obtain⟨t0,t1,tf⟩:=box2 T5;obtain⟨y0,y1,yf⟩:=box2 X5;cases R with
    | none =>
     have HR:Hid (PostPt w n0 rb mb (.slice aoc cells.length capc) c Z (.returned (.tuple #[.nilIface,.bool false])) w5):=by
      have hz:Z=none:=hk26.out;rw[hz];exact⟨⟨_,rfl,fun s k h=>(by cases h)⟩,fun s k h=>(by cases h),KW5⟩
     clear hk26 LAID hR5 KW5 P85 E5 T5 X5 hnk;simp only[Option.isSome_none];go_wp2;exact bodyPost_ret (v:=.tuple #[.nilIface,.bool false]) (by simp[results,Tryz.results120,go_sem]) rfl HR.out
    | some s2 =>
     have RD5:=hR5 s2 rfl;have HFIN3:Hid (Z=some (s2,is)):=hk26.out;have c4:=LAID w5 P85;clear hk26 LAID hR5 hnk;simp only[Option.isSome_some];go_wp2_with fail;refine c4.mono ?_;rintro z w6 ⟨⟨v,rfl,hv⟩,b6⟩;have HR:Hid (PostPt w n0 rb mb (.slice aoc cells.length capc) c Z (.returned (.tuple #[v,.bool true])) w6):=by
      rw[HFIN3.out];refine⟨⟨v,rfl,fun s k h=>?_⟩,fun s k h=>?_,KW5.trans (Kp.ofBelow b6)⟩
      ·injection h with h
       injection h with h1 h2
       rw[<-h2];exact hv
      ·injection h with h
       injection h with h1 h2
       rw[<-h1];exact RD5.below b6
     clear c4 HFIN3 hv b6 RD5 KW5 P85 E5 T5 X5 p0 p1 p2 p3 pf t0 t1 tf y0 y1 yf;go_wp2;exact bodyPost_ret (v:=.tuple #[v,.bool true]) (by simp[results,Tryz.results120,go_sem]) rfl HR.out
   ·have hb26:(k0==26)=false:=by simpa using h26
    have HFIN3:Hid (Z=some (s1,is)):=by show Z=_;rw[HFIN2.out,if_neg h26]
    have c3:=LAID w4 P84;clear HFIN2 LAID h26 hnk S4 N4;go_wp2_with fail;refine c3.mono ?_;rintro z w5 ⟨⟨v,rfl,hv⟩,b5⟩;have HR:Hid (PostPt w n0 rb mb (.slice aoc cells.length capc) c Z (.returned (.tuple #[v,.bool true])) w5):=by
     rw[HFIN3.out];refine⟨⟨v,rfl,fun s k h=>?_⟩,fun s k h=>?_,K4.trans (Kp.ofBelow b5)⟩
     ·injection h with h
      injection h with h1 h2
      rw[<-h2];exact hv
     ·injection h with h
      injection h with h1 h2
      rw[<-h1];exact(RD4.below b5).less
    clear c3 HFIN3 hv b5 RD4 K4 P84 E4 T4 X4 p0 p1 p2 p3 pf t0 t1 tf y0 y1 yf;go_wp2;exact bodyPost_ret (v:=.tuple #[v,.bool true]) (by simp[results,Tryz.results120,go_sem]) rfl HR.out
  | cons kk kn km ka kks kr =>
   have hlt:(d.len:Int)<(f.len:Int):=by simp only[Fs.len] at hlk;omega
   have hl3:d.len<f.len:=by omega
   have hsz:f.size=d.size+(kks.size+kr.size+1):=by rw[hk.out,Fs.size_app];rfl
   have hfk:FitN ⟨kk,kn,km,ka,kks⟩:=hf.kid (d:=d) (r:=kr) hk.out;have S1:SlN wr (Lt0 n0) f ao:=S.mono (fun i hp hl=>K1.block i hl (by have hp:i<n0:=hp;omega) (by have hp:i<n0:=hp;omega)) K1.size (fun _ h _=>h);have N1:Inw wr (Lt0 n0) (.slice aoc cells.length capc) cells:=hn.mono (fun i hp hl=>K1.block i hl (by have hp:i<n0:=hp;omega) (by have hp:i<n0:=hp;omega)) K1.size (fun _ h _=>h);have hWd1:Wd wr:=hWd.kp K1 (by omega) (by omega);obtain⟨b,off,ak,ck,hao,lb1,-,x0,x1,x2,x3,SK⟩:=SlN.kidQ (by rw[<-hk.out];exact S1);subst hao;have hk2:Hid (f=(d.snoc ⟨kk,kn,km,ka,kks⟩).app kr):=by show f=_;rw[hk.out];unfold Fs.snoc;rw[Fs.app_assoc];rfl
   have hl2:(d.len:Int)+1=((d.snoc ⟨kk,kn,km,ka,kks⟩).len:Nat):=by rw[Fs.len_snoc];rfl
   have HA2:Hid ((match rgE cells ⟨kk,kn,km,ka,kks⟩ (spotP k0 d.len ar wi).1 (spotP k0 d.len ar wi).2 s1 with|none=>none|some (s2,k)=>bothP cells ⟨k0,n,nm,a,f⟩ ar wi kr (d.len+1) s2 (ds++[k]))=Z):=by show _=Z;rw[<-HA.out];exact(both_cons (e:=⟨k0,n,nm,a,f⟩) (x:=⟨kk,kn,km,ka,kks⟩)).symm
   have hsp1:(spotP k0 d.len ar wi).2<=5/\(spotP k0 d.len ar wi).1<=(spotP k0 d.len ar wi).2:=by
    unfold spotP;split
    ·simp only;split<;>omega
    ·simp only;omega
   -- the kid's box
   have s2:=boxStep (fun _=>False) wr o (.cells #[.int .i64 kk,.int .i64 kn,stv km,.slice ak kks.len ck] 34);have b2:Below wr.heap.size wr (wr.alloc (.cells #[.int .i64 kk,.int .i64 kn,stv km,.slice ak kks.len ck] 34)):=(Below.refl _ wr).alloc (Nat.le_refl _) _;have X2:(wr.alloc (.cells #[.int .i64 kk,.int .i64 kn,stv km,.slice ak kks.len ck] 34)).heap[wr.heap.size]?=some (.cells #[.int .i64 kk,.int .i64 kn,stv km,.slice ak kks.len ck] 34):=heap_alloc_new wr _;have RD2:=RD1.below b2;have R82:=R8.step s2 id;have R92:=R9.step s2 id;have BE2:=BE1.step s2 id;have BT2:=BT1.step s2 id;have hrw:rb<wr.heap.size:=lt_of_block RD1.blk;have hmw:mb<wr.heap.size:=RD1.ltm;have or2:newLab wr o 0 rb=1:=(newLab_old hrw).trans or1;have om2:newLab wr o 0 mb=1:=(newLab_old hmw).trans om1;have L2:Hid (∀ k,k<w.heap.size->newLab wr o 0 k<=1):=fun k hk=>by rw[newLab_old (by have:=K1.size;omega)];exact L1.out k hk
   have K2:=K1.trans (Kp.ofBelow b2);have N2:=N1.below b2;have SK2:=SK.belowP b2;have hWd2:=hWd1.below b2;obtain⟨xb,hxb⟩:∃xb,xb=wr.heap.size:=⟨_,rfl⟩
   have hx1:xb≠rb:=by omega
   have hx2:xb≠mb:=by omega
   clear HA R8 R9 BE1 BT1 or1 om1 L1 K1 RD1 S1 N1 SK hWd1 s2 hk p0 p1 p2 p3 pf t0 t1 tf;go_upto_region 9 with fail;generalize newLab wr o 0=o2 at *;generalize wr.alloc (.cells #[.int .i64 kk,.int .i64 kn,stv km,.slice ak kks.len ck] 34)=w2 at *;rw[<-hxb] at X2 ⊢;clear hxb b2 x0 x1 x2 x3;obtain⟨p0,p1,p2,p3,pf⟩:=box4 BE2.1;obtain⟨t0,t1,tf⟩:=box2 BT2.1;obtain⟨z0,z1,z2,z3,zf⟩:=box4 X2;have hbl:=BE2.lt;have htl:=BT2.lt;have hxl:=lt_of_block X2;have bdT:Below w2.heap.size w2 w2.drew:=⟨rfl,rfl,rfl,Nat.le_refl _,fun _ _=>rfl⟩
   have c9:=ofkid_c ⟨k0,n,nm,a,f⟩ (some ⟨b,off,none⟩) cap ar wi d.len w2.drew (by omega) (by omega) (by omega);rw[exN_out] at c9;simp only at c9;have hrk:=fun k2 (h:∃s2,rgE cells ⟨kk,kn,km,ka,kks⟩ (spotP k0 d.len ar wi).1 (spotP k0 d.len ar wi).2 s1=some (s2,k2))=>h;clear hrk;have hcnt:Hid (∀ s2 k,rgE cells ⟨kk,kn,km,ka,kks⟩ (spotP k0 d.len ar wi).1 (spotP k0 d.len ar wi).2 s1=some (s2,k)->s1.1+1<=s2.1/\(d.snoc ⟨kk,kn,km,ka,kks⟩).nv):=fun s2 k h=>⟨rgE_cnt h,Fs.snoc_nv hnv.out (rgE_nv h)⟩;have c10:=fun (w3:World) (b3:Below w2.drew.heap.size w2.drew w3)=>IH ⟨kk,kn,km,ka,kks⟩ ak ck n0 rb mb (.slice aoc cells.length capc) cells (spotP k0 d.len ar wi).1 (spotP k0 d.len ar wi).2 s1 (c+1) w3 (by show kks.size<N;omega) hfk hsp1.1 hsp1.2 hcl hne hr0 hm0 hG ((hWd2.below bdT).below b3) ((RD2.below bdT).below b3) ((N2.below bdT).below b3) ((SK2.belowP bdT).belowP b3);simp only[exN_out] at c10;generalize rgE cells ⟨kk,kn,km,ka,kks⟩ (spotP k0 d.len ar wi).1 (spotP k0 d.len ar wi).2 s1=rr at *;generalize (spotP k0 d.len ar wi).1=sA at *;generalize (spotP k0 d.len ar wi).2=sB at *;clear hWd2 N2 SK2 hsz hfk hsp1 hlk;go_upto_region 9 with fail;go_cut [12,13] (fun v12 v13 wx=>∃v,v12=v/\v13=.bool rr.isSome/\(∀ s k,rr=some (s,k)->PrtV v k)/\(∀ s k,rr=some (s,k)->RD wx n0 rb mb (.slice aoc cells.length capc) (c+1) s)/\Kp rb mb w2 wx)
   case first =>
    go_wp2_with fail;go_region_held3 (fun wx=>wx.cell? ⟨bx,0,none⟩=some (.int .i64 k0)/\wx.cell? ⟨bx,1,none⟩=some (.int .i64 n)/\wx.cell? ⟨bx,2,none⟩=some (stv nm)/\wx.cell? ⟨bx,3,none⟩=some (.slice (some ⟨b,off,none⟩) f.len cap)/\wx.cell? ⟨bx+1,0,none⟩=some (.int .i64 (ar:Nat))/\wx.cell? ⟨bx+1,1,none⟩=some (.int .i64 (wi:Nat))/\wx.cell? ⟨xb,0,none⟩=some (.int .i64 kk)/\wx.cell? ⟨xb,1,none⟩=some (.int .i64 kn)/\wx.cell? ⟨xb,2,none⟩=some (stv km)/\wx.cell? ⟨xb,3,none⟩=some (.slice ak kks.len ck))
     (first|exact KA|go_keep)
     (first
      | (go_at_call 182;refine c9.mono ?_;rintro z w3 ⟨rfl,B3⟩;have KA:w3.cell? ⟨bx,0,none⟩=some (.int .i64 k0)/\w3.cell? ⟨bx,1,none⟩=some (.int .i64 n)/\w3.cell? ⟨bx,2,none⟩=some (stv nm)/\w3.cell? ⟨bx,3,none⟩=some (.slice (some ⟨b,off,none⟩) f.len cap)/\w3.cell? ⟨bx+1,0,none⟩=some (.int .i64 (ar:Nat))/\w3.cell? ⟨bx+1,1,none⟩=some (.int .i64 (wi:Nat))/\w3.cell? ⟨xb,0,none⟩=some (.int .i64 kk)/\w3.cell? ⟨xb,1,none⟩=some (.int .i64 kn)/\w3.cell? ⟨xb,2,none⟩=some (stv km)/\w3.cell? ⟨xb,3,none⟩=some (.slice ak kks.len ck):=⟨(B3.cell (p:=⟨bx,0,none⟩) hbl).trans p0,(B3.cell (p:=⟨bx,1,none⟩) hbl).trans p1,(B3.cell (p:=⟨bx,2,none⟩) hbl).trans p2,(B3.cell (p:=⟨bx,3,none⟩) hbl).trans p3,(B3.cell (p:=⟨bx+1,0,none⟩) htl).trans t0,(B3.cell (p:=⟨bx+1,1,none⟩) htl).trans t1,(B3.cell (p:=⟨xb,0,none⟩) hxl).trans z0,(B3.cell (p:=⟨xb,1,none⟩) hxl).trans z1,(B3.cell (p:=⟨xb,2,none⟩) hxl).trans z2,(B3.cell (p:=⟨xb,3,none⟩) hxl).trans z3⟩)
      | (go_at_call 120;refine(c10 _ B3).mono ?_;rintro z w4 ⟨⟨v,rfl,hv⟩,hR4,K4⟩;have KA4:w4.cell? ⟨bx,0,none⟩=some (.int .i64 k0)/\w4.cell? ⟨bx,1,none⟩=some (.int .i64 n)/\w4.cell? ⟨bx,2,none⟩=some (stv nm)/\w4.cell? ⟨bx,3,none⟩=some (.slice (some ⟨b,off,none⟩) f.len cap)/\w4.cell? ⟨bx+1,0,none⟩=some (.int .i64 (ar:Nat))/\w4.cell? ⟨bx+1,1,none⟩=some (.int .i64 (wi:Nat))/\w4.cell? ⟨xb,0,none⟩=some (.int .i64 kk)/\w4.cell? ⟨xb,1,none⟩=some (.int .i64 kn)/\w4.cell? ⟨xb,2,none⟩=some (stv km)/\w4.cell? ⟨xb,3,none⟩=some (.slice ak kks.len ck):=⟨(K4.cell (Nat.lt_of_lt_of_le hbl B3.size) hb1 hb2 _).trans KA.1,(K4.cell (Nat.lt_of_lt_of_le hbl B3.size) hb1 hb2 _).trans KA.2.1,(K4.cell (Nat.lt_of_lt_of_le hbl B3.size) hb1 hb2 _).trans KA.2.2.1,(K4.cell (Nat.lt_of_lt_of_le hbl B3.size) hb1 hb2 _).trans KA.2.2.2.1,(K4.cell (Nat.lt_of_lt_of_le htl B3.size) hs1 hs2 _).trans KA.2.2.2.2.1,(K4.cell (Nat.lt_of_lt_of_le htl B3.size) hs1 hs2 _).trans KA.2.2.2.2.2.1,(K4.cell (Nat.lt_of_lt_of_le hxl B3.size) hx1 hx2 _).trans KA.2.2.2.2.2.2.1,(K4.cell (Nat.lt_of_lt_of_le hxl B3.size) hx1 hx2 _).trans KA.2.2.2.2.2.2.2.1,(K4.cell (Nat.lt_of_lt_of_le hxl B3.size) hx1 hx2 _).trans KA.2.2.2.2.2.2.2.2.1,(K4.cell (Nat.lt_of_lt_of_le hxl B3.size) hx1 hx2 _).trans KA.2.2.2.2.2.2.2.2.2⟩;have KA:=KA4))
    have HM:Hid (Kp rb mb w2 w4):=(Kp.ofBelow (bdT.trans B3)).trans K4;clear KA KA4 c9 c10;go_wp2;go_meet;exact⟨v,rfl,rfl,hv,hR4,HM.out⟩
   case rest =>
    obtain⟨v,rfl,rfl,hv,hR4,K4⟩:=hcut;have KW4:=K2.trans K4;clear c9 c10 p0 p1 p2 p3 pf t0 t1 tf z0 z1 z2 z3 zf;cases hrr:rr with
    | none =>
     have HR:Hid (PostPt w n0 rb mb (.slice aoc cells.length capc) c Z (.returned (.tuple #[.nilIface,.bool false])) wc):=by
      have hz:Z=none:=by rw[<-HA2.out,hrr]
      rw[hz];exact⟨⟨_,rfl,fun s k h=>(by cases h)⟩,fun s k h=>(by cases h),KW4⟩
     clear HA2 hv hR4 K4 KW4 hcnt R82 R92 BE2 BT2 L2 RD2 X2;simp only[Option.isSome_none];go_wp2;exact bodyPost_ret (v:=.tuple #[.nilIface,.bool false]) (by simp[results,Tryz.results120,go_sem]) rfl HR.out
    | some zz =>
     obtain⟨s2,k⟩:=zz;have hct:=(hcnt.out s2 k hrr).1;have hnv2:Hid (d.snoc ⟨kk,kn,km,ka,kks⟩).nv:=(hcnt.out s2 k hrr).2;obtain⟨ty,vx,rfl,he⟩:=hv s2 k hrr;have RD4:=hR4 s2 k hrr;have HA3:Hid (bothP cells ⟨k0,n,nm,a,f⟩ ar wi kr (d.len+1) s2 (ds++[k])=Z):=by show _=Z;rw[<-HA2.out,hrr]
     have s4:=K4.toStep or2 om2;have hrw2:rb<w2.heap.size:=lt_of_block RD2.blk;have hmw2:mb<w2.heap.size:=RD2.ltm;have R84:=R82.step s4 (by decide);have R94:=R92.step s4 (by decide);have BE4:=BE2.step s4 (by decide);have BT4:=BT2.step s4 (by decide);have or4:newLab w2 o2 0 rb=1:=(newLab_old hrw2).trans or2;have om4:newLab w2 o2 0 mb=1:=(newLab_old hmw2).trans om2;have L4:Hid (∀ k,k<w.heap.size->newLab w2 o2 0 k<=1):=fun k hk=>by rw[newLab_old (by have:=K2.size;omega)];exact L2.out k hk
     simp only[Option.isSome_some];clear HA2 hv hR4 K4 hcnt R82 R92 BE2 BT2 L2 RD2 X2 hrr s4 K2 or2 om2 bdT;generalize newLab w2 o2 0=o4 at *
     -- the part goes behind the others
     have s5:=boxStep (fun _=>False) wc o4 (.cells #[.iface ty vx] 126);have b5:Below wc.heap.size wc (wc.alloc (.cells #[.iface ty vx] 126)):=(Below.refl _ wc).alloc (Nat.le_refl _) _;have R85:=R84.step s5 id;have R95:=R94.step s5 id;have BE5:=BE4.step s5 id;have BT5:=BT4.step s5 id;have RD5:=RD4.below b5;have hrwc:rb<wc.heap.size:=lt_of_block RD4.blk;have hmwc:mb<wc.heap.size:=RD4.ltm;have or5:newLab wc o4 0 rb=1:=(newLab_old hrwc).trans or4;have om5:newLab wc o4 0 mb=1:=(newLab_old hmwc).trans om4;have L5:Hid (∀ k,k<w.heap.size->newLab wc o4 0 k<=1):=fun k hk=>by rw[newLab_old (by have:=KW4.size;omega)];exact L4.out k hk
     have KW5:=KW4.trans (Kp.ofBelow b5);have hone:∀ u ∈ [Value.iface ty vx],u.oneCell'=true:=by intro u hu;simp at hu;subst hu;rfl
     have q1:d.len+1<=maxLen:=by unfold maxLen;omega
     have q2:(d.len+1)*16<=140737488355328:=by omega
     clear R84 R94 BE4 BT4 RD4 or4 om4 L4 KW4 s5 b5;go_wp2_with (first|(at_builtin;refine wpList_append_lab rfl (.tmp 64) (.tmp 66) 208 rfl 126 ip .nilIface 1 16 Tryz.underlying208 hip hzp0 hzp1 hzp2 rfl (by decide) (newLab wc o4 0) 2 _ d.len ps rfl R85 ⟨wc.heap.size,0,none⟩ 1 1 [.iface ty vx] rfl rfl (new_one wc _ _) hone (by decide) q1 q2 ?_)|go_in);intro g8 c8 w6 o6 R86 s6;have hz5:(wc.alloc (.cells #[.iface ty vx] 126)).heap.size=wc.heap.size+1:=by simp
     have hne2:∀ k,k<w.heap.size->newLab wc o4 0 k≠2:=fun k hk=>by have:=L5.out k hk;omega
     have R96:=R95.step s6 (by decide);have BE6:=BE5.step s6 (by decide);have BT6:=BT5.step s6 (by decide);have RD6:=RD5.step s6 (by rw[or5];decide) (by rw[om5];decide) (fun k hk=>hne2 k (by omega));have or6:o6 rb=1:=(s6.lab rb (by omega)).trans or5;have om6:o6 mb=1:=(s6.lab mb (by omega)).trans om5;have L6:Hid (∀ k,k<w.heap.size->o6 k<=1):=fun k hk=>by rw[s6.lab k (by have:=KW5.size;omega)];exact L5.out k hk
     have KW6:=KW5.step s6 hne2;clear R85 R95 BE5 BT5 RD5 or5 om5 L5 KW5 s6 hne2 hz5 hone q2 hrwc hmwc;generalize newLab wc o4 0=o5 at *;have c11:=fun w=>kindof_c k w;go_wp2_with fail;refine(c11 _).mono ?_;rintro z w7 ⟨rfl,b7⟩;have s7:=Below.toStep (I:=fun _=>False) (o:=o6) b7;have R87:=R86.step s7 id;have R97:=R96.step s7 id;have BE7:=BE6.step s7 id;have BT7:=BT6.step s7 id;have RD7:=RD6.below b7;have hrw6:rb<w6.heap.size:=lt_of_block RD6.blk;have hmw6:mb<w6.heap.size:=RD6.ltm;have or7:newLab w6 o6 0 rb=1:=(newLab_old hrw6).trans or6;have om7:newLab w6 o6 0 mb=1:=(newLab_old hmw6).trans om6;have L7:Hid (∀ k,k<w.heap.size->newLab w6 o6 0 k<=1):=fun k hk=>by rw[newLab_old (by have:=KW6.size;omega)];exact L6.out k hk
     have KW7:=KW6.trans (Kp.ofBelow b7);clear R86 R96 BE6 BT6 RD6 or6 om6 L6 KW6 s7 b7 c11 he hrw6 hmw6;generalize newLab w6 o6 0=o7 at *;have s8:=boxStep (fun _=>False) w7 o7 (.cells #[.int .i64 k] 3);have b8:Below w7.heap.size w7 (w7.alloc (.cells #[.int .i64 k] 3)):=(Below.refl _ w7).alloc (Nat.le_refl _) _;have R88:=R87.step s8 id;have R98:=R97.step s8 id;have BE8:=BE7.step s8 id;have BT8:=BT7.step s8 id;have RD8:=RD7.below b8;have hrw7:rb<w7.heap.size:=lt_of_block RD7.blk;have hmw7:mb<w7.heap.size:=RD7.ltm;have or8:newLab w7 o7 0 rb=1:=(newLab_old hrw7).trans or7;have om8:newLab w7 o7 0 mb=1:=(newLab_old hmw7).trans om7;have L8:Hid (∀ k,k<w.heap.size->newLab w7 o7 0 k<=1):=fun k hk=>by rw[newLab_old (by have:=KW7.size;omega)];exact L7.out k hk
     have KW8:=KW7.trans (Kp.ofBelow b8);have hone:∀ u ∈ [Value.int .i64 k],u.oneCell'=true:=by intro u hu;simp at hu;subst hu;rfl
     have q2:(d.len+1)*8<=140737488355328:=by omega
     have hz8:(w7.alloc (.cells #[.int .i64 k] 3)).heap.size=w7.heap.size+1:=by simp
     clear R87 R97 BE7 BT7 RD7 or7 om7 L7 KW7 s8 b8;go_wp2_with (first|(at_builtin;refine wpList_append_lab rfl (.tmp 68) (.tmp 71) 35 rfl 3 ii (.int .i64 0) 1 8 Tryz.underlying35 hii hzi0 hzi1 hzi2 rfl (by decide) (newLab w7 o7 0) 3 _ d.len (ds.map (Value.int .i64)) rfl R98 ⟨w7.heap.size,0,none⟩ 1 1 [.int .i64 k] rfl rfl (new_one w7 _ _) hone (by decide) q1 q2 ?_)|go_in);intro g9 c9 w9 o9 R99 s9;have hne3:∀ k,k<w.heap.size->newLab w7 o7 0 k≠3:=fun k hk=>by have:=L8.out k hk;omega
     have R89:=R88.step s9 (by decide);have BE9:=BE8.step s9 (by decide);have BT9:=BT8.step s9 (by decide);have RD9:=RD8.step s9 (by rw[or8];decide) (by rw[om8];decide) (fun k hk=>hne3 k (by omega));have or9:o9 rb=1:=(s9.lab rb (by omega)).trans or8;have om9:o9 mb=1:=(s9.lab mb (by omega)).trans om8;have L9:Hid (∀ k,k<w.heap.size->o9 k<=1):=fun k hk=>by rw[s9.lab k (by have:=KW8.size;omega)];exact L8.out k hk
     have KW9:=KW8.step s9 hne3;have hps2:Hid (∀ u,u ∈ ps++[Value.iface ty vx]->∃ty x,u=.iface ty x):=by
      intro u hu;rcases List.mem_append.1 hu with h|h
      ·exact hps.out u h
      ·simp at h;exact⟨ty,vx,h⟩
     have hls:(d.snoc ⟨kk,kn,km,ka,kks⟩).len=d.len+1:=Fs.len_snoc _ _;have R99b:Row w9 o9 3 3 1 (.slice (some ⟨g9,0,none⟩) (d.len+1) c9) (d.snoc ⟨kk,kn,km,ka,kks⟩).len ((ds++[k]).map (Value.int .i64)):=by rw[hls,List.map_append];exact R99
     have R89b:Row w9 o9 2 126 1 (.slice (some ⟨g8,0,none⟩) (d.len+1) c8) (d.snoc ⟨kk,kn,km,ka,kks⟩).len (ps++[.iface ty vx]):=by rw[hls];exact R89
     have hdl2:(ds++[k]).length=(d.snoc ⟨kk,kn,km,ka,kks⟩).len:=by rw[hls];simp[hdl]
     have hds2:(d.snoc ⟨kk,kn,km,ka,kks⟩).len<=s2.1:=by rw[hls];omega
     have HA4:Hid (bothP cells ⟨k0,n,nm,a,f⟩ ar wi kr (d.snoc ⟨kk,kn,km,ka,kks⟩).len s2 (ds++[k])=Z):=by rw[hls];exact HA3
     clear R88 R98 BE8 BT8 RD8 or8 om8 L8 KW8 s9 hne3 hz8 hone R99 R89 HA3 hps hls;go_wp2;go_roundw
     case rel=>exact⟨_,kr,o9,_,_,s2,hk2,by rw[<-hl2],R89b,hps2,R99b,hdl2,hds2,hnv2,RD9,or9,om9,BE9,BT9,L9,KW9,HA4⟩
     case measure=>simp[intOf];omega
theorem partp_ok:∀ N,PartPOk N -- 120
 | 0=>fun e ao cap n0 rb mb bv cells ar wi s c w h=>absurd h (Nat.not_lt_zero _)
 | N+1=>part_step2 (partp_ok N)
theorem kindP_inv {cells:List Int}{e:Ex}(h:kindP cells e≠0):cells.length<=256/\(∀ c,c ∈ cells->0<=c/\c<=4)/\∃s,rgE cells e 0 0 (0,fun _=>none)=some (s,kindP cells e)/\kindP cells e≠4:=by
 have h0:=h;unfold kindP at h ⊢;split at h
 ·exact absurd rfl h
 ·rename_i h1
  rw[if_neg h1];have h2:rgF cells (one e) 0 0 0 0 (0,fun _=>none)=_:=rg_ex cells e .nil 0 0 0 0 (0,fun _=>none);have hsp:spotP 0 0 0 0=(0,0):=rfl;rw[hsp] at h2;simp only at h2;refine⟨by omega,?_,?_⟩
  ·intro c hc;have h3:¬(cells.any (fun c=>decide (c<0)||decide (4<c))=true):=fun h=>h1 (.inr h);simp only[List.any_eq_true,not_exists,not_and,Bool.or_eq_true,decide_eq_true_eq] at h3
   have:=h3 c hc
   omega
  ·cases hx:rgE cells e 0 0 (0,fun _=>none) with
   | none=>rw[h2,hx] at h;exact absurd rfl h
   | some z =>
    obtain⟨s,k⟩:=z;rw[h2,hx] at h ⊢;simp only[rgF] at h ⊢;by_cases h4:k=4
    ·rw[if_pos h4] at h;exact absurd rfl h
    ·rw[if_neg h4];exact⟨s,rfl,h4⟩
theorem kindP_knd {cells:List Int}{e:Ex}(h1:cells.length<=256)(h2:∀ c,c ∈ cells->0<=c/\c<=4):kindP cells e=(match kndD cells e 0 0 (0,fun _=>none) with|none=>0|some (_,k)=>k):=by
 unfold kindP;have h3:¬(256<cells.length\/cells.any (fun c=>decide (c<0)||decide (4<c))=true):=by
  rintro (h|h)
  ·omega
  ·simp only[List.any_eq_true,Bool.or_eq_true,decide_eq_true_eq] at h;obtain⟨c,hc,h⟩:=h
   have:=h2 c hc
   omega
 rw[if_neg h3];have h4:rgF cells (one e) 0 0 0 0 (0,fun _=>none)=_:=rg_ex cells e .nil 0 0 0 0 (0,fun _=>none);have hsp:spotP 0 0 0 0=(0,0):=rfl;rw[h4,hsp];unfold kndD;simp only;cases rgE cells e 0 0 (0,fun _=>none) with
 | none=>rfl
 | some z =>
  obtain⟨s,k⟩:=z;simp only[rgF];split<;>rfl
theorem kindP_big {cells:List Int}{e:Ex}(h:256<cells.length):kindP cells e=0:=by unfold kindP;rw[if_pos (.inl h)]
def plV (e:Ex)(ao:Option Addr)(cap:Nat)(cv:Value):Value:=.agg #[.int .i64 e.k,.int .i64 e.n,stv e.nm,.slice ao e.kids.len cap,cv]
theorem plV_out (e:Ex)(ao:Option Addr)(cap:Nat)(cv:Value):plV e ao cap cv=.agg #[.int .i64 e.k,.int .i64 e.n,stv e.nm,.slice ao e.kids.len cap,cv]:=rfl
theorem any_nl (cells:List Int):cells.any (fun c=>decide (c<0)||decide (4<c))=cells.any nlB:=rfl
theorem nl_false {cells:List Int}(h:cells.any nlB=false):∀ c,c ∈ cells->0<=c/\c<=4:=by
 intro c hc;rw[List.any_eq_false] at h
 have:=h c hc
 simp[nlB] at this;omega
theorem kindP_nl {cells:List Int}{e:Ex}(h:cells.any nlB=true):kindP cells e=0:=by
 unfold kindP;rw[if_pos (.inr (by rw[any_nl];exact h))]
theorem kindP_rg {cells:List Int}{e:Ex}(h1:cells.length<=256)(h2:cells.any nlB=false):kindP cells e=(match rgE cells e 0 0 (0,fun _=>none) with|none=>0|some (_,k)=>if k=4 then 0 else k):=by
 rw[kindP_knd h1 (nl_false h2)];unfold kndD;cases rgE cells e 0 0 (0,fun _=>none) with
 | none=>rfl
 | some z =>
  obtain⟨s,k⟩:=z;simp only;by_cases h4:k=4
  ·rw[if_pos h4,if_pos h4]
  ·rw[if_neg h4,if_neg h4]
theorem read_c (e:Ex)(ao:Option Addr)(cap:Nat)(cv:Value)(cells:List Int)(w:World)(hf:FitN e)(hW:Wd w)(hc:InA w cv cells)(hcl:cells.length<=1000000000)(S:SnA w e.kids ao) :
  Calls Tryz.prog 72 #[plV e ao cap cv] w fun x w'=>(∃v,x=.returned (.tuple #[v,.bool (decide (kindP cells e≠0))]))/\Below w.heap.size w w':=by
 obtain⟨W,hZ⟩:∃W,W=decide (kindP cells e≠0):=⟨_,rfl⟩
 rw[<-hZ];have HW:Hid (W=decide (kindP cells e≠0)):=hZ;clear hZ;obtain⟨ac,cc,hcv,hcx⟩:=hc;have hc:InA w cv cells:=⟨ac,cc,hcv,hcx⟩
 subst hcv;clear hcx;have hG:=hW.lt;have B0:Below w.heap.size w (w.alloc (.cells #[.int .i64 e.k,.int .i64 e.n,stv e.nm,.slice ao e.kids.len cap,.slice ac cells.length cc] 37)):=(Below.refl _ w).alloc (Nat.le_refl _) _;have E0:(w.alloc (.cells #[.int .i64 e.k,.int .i64 e.n,stv e.nm,.slice ao e.kids.len cap,.slice ac cells.length cc] 37)).heap[w.heap.size]?=some (.cells #[.int .i64 e.k,.int .i64 e.n,stv e.nm,.slice ao e.kids.len cap,.slice ac cells.length cc] 37):=heap_alloc_new w _;have S0:SlN (w.alloc (.cells #[.int .i64 e.k,.int .i64 e.n,stv e.nm,.slice ao e.kids.len cap,.slice ac cells.length cc] 37)) (Lt0 w.heap.size) e.kids ao:=S.mono (fun i _ hl=>B0.block i hl) B0.size (fun k _ hl=>hl);have N0:Inw (w.alloc (.cells #[.int .i64 e.k,.int .i64 e.n,stv e.nm,.slice ao e.kids.len cap,.slice ac cells.length cc] 37)) (Lt0 w.heap.size) (.slice ac cells.length cc) cells:=hc.mono (fun i _ hl=>B0.block i hl) B0.size (fun k _ hl=>hl);have I0:=hc.below B0;have W0:=hW.below B0;clear S hc hW;rw[plV_out];go_enter Tryz.func72,Tryz.ntmps72;go_upto_region 1 with fail;generalize w.alloc (.cells #[.int .i64 e.k,.int .i64 e.n,stv e.nm,.slice ao e.kids.len cap,.slice ac cells.length cc] 37)=w0 at *;obtain⟨n0,hn0⟩:∃n0,n0=w.heap.size:=⟨_,rfl⟩
 rw[<-hn0] at E0 S0 N0 hG B0 ⊢;have HN:Hid (n0=w.heap.size):=hn0;clear hn0;obtain⟨p0,p1,p2,p3,p4,pf⟩:=box5 E0;by_cases h256:256<cells.length
 ·have hI:(256:Int)<(cells.length:Int):=by omega
  have HZ:Hid (W=false):=by show W=_;rw[HW.out,kindP_big h256];rfl
  clear HW S0 N0 I0 W0 E0;go_wp2;refine bodyPost_ret (v:=.tuple #[.nilIface,.bool false]) (by simp[results,Tryz.results72,go_sem]) rfl ⟨⟨_,by rw[HZ.out]⟩,?_⟩;rw[<-HN.out];exact B0
 have hI:¬(256:Int)<(cells.length:Int):=by omega
 have c1:=containsfunc_c w0 _ cells I0 hcl;go_wp2_with fail;refine c1.mono ?_;rintro z w1 ⟨rfl,rfl⟩;cases hnl:cells.any nlB with
 | true =>
  have HZ:Hid (W=false):=by show W=_;rw[HW.out,kindP_nl hnl];rfl
  clear HW S0 N0 I0 W0 E0 c1;go_wp2;refine bodyPost_ret (v:=.tuple #[.nilIface,.bool false]) (by simp[results,Tryz.results72,go_sem]) rfl ⟨⟨_,by rw[HZ.out]⟩,?_⟩;rw[<-HN.out];exact B0
 | false =>
 have HW2:Hid (W=decide ((match rgE cells e 0 0 (0,fun _=>none) with|none=>0|some (_,k)=>if k=4 then 0 else k)≠0)):=by show W=_;rw[HW.out,kindP_rg (by omega) hnl]
 clear HW c1;have hmm:=@run_makeMap Tryz.prog;obtain⟨w2,hw2⟩:∃w2,w2=(w1.alloc (.map #[] 0)).alloc (.cells #[.slice ac cells.length cc,.map (some w1.heap.size),.int .i64 0] 170):=⟨_,rfl⟩
 have b2:Below w1.heap.size w1 w2:=by rw[hw2];exact((Below.refl _ w1).alloc (Nat.le_refl _) _).alloc (by simp) _
 have M2:MpN w2 (Lt0 n0) w1.heap.size 0 (fun _=>none):=by
  rw[hw2];exact(MpN.made w1 (Lt0 n0)).mono (Below.heap_alloc _ _ _ (by simp)) (fun k _ hl=>Below.heap_alloc _ _ _ hl) (by simp)
 have X2:w2.heap[w1.heap.size+1]?=some (.cells #[.slice ac cells.length cc,.map (some w1.heap.size),.int .i64 0] 170 (0,0)):=by
  rw[hw2]
  have:=heap_alloc_new (w1.alloc (.map #[] 0)) (.cells #[.slice ac cells.length cc,.map (some w1.heap.size),.int .i64 0] 170)
  simpa using this
 have R2:RD w2 n0 (w1.heap.size+1) w1.heap.size (.slice ac cells.length cc) 0 (0,fun _=>none):=⟨X2,⟨0,Nat.le_refl _,M2⟩,by show 0<=4096;omega,fun i y h=>by cases h⟩
 have hlt:=lt_of_block E0;have c4:=partp_ok (e.kids.size+1) e ao cap n0 (w1.heap.size+1) w1.heap.size (.slice ac cells.length cc) cells 0 0 (0,fun _=>none) 0 w2 (by omega) hf (by omega) (by omega) (by omega) (by omega) (by omega) (by omega) hG (W0.below b2) R2 (N0.below b2) (S0.belowP b2);rw[exN_out] at c4;have E2:=(b2.block _ hlt).trans E0;have hmx:n0<=w1.heap.size:=by omega
 have hsz2:w1.heap.size+2<=w2.heap.size:=by have:=lt_of_block X2;omega
 clear E0 S0 N0 I0 W0 M2 X2 R2;go_upto_region 4 with fail;rw[<-hw2];clear hw2 hmm p0 p1 p2 p3 p4 pf;obtain⟨p0,p1,p2,p3,p4,pf⟩:=box5 E2;have hpos:Hid (∀ s k,rgE cells e 0 0 (0,fun _=>none)=some (s,k)->k≠0):=fun s k h=>rgE_pos h;generalize rgE cells e 0 0 (0,fun _=>none)=rr at *;go_wp2_with fail;refine c4.mono ?_;rintro z w3 ⟨⟨v,rfl,hv⟩,-,K3⟩;have B3:Below n0 w w3:=(B0.trans (b2.mono hmx)).trans (K3.below (by omega) hmx (by omega));clear c4 p0 p1 p2 p3 p4 pf E2 K3 b2;cases rr with
 | none =>
  have HZ:Hid (W=false):=by show W=_;rw[HW2.out];rfl
  clear HW2 hv;simp only[Option.isSome_none];go_wp2;refine bodyPost_ret (v:=.tuple #[.nilIface,.bool false]) (by simp[results,Tryz.results72,go_sem]) rfl ⟨⟨_,by rw[HZ.out]⟩,?_⟩;rw[<-HN.out];exact B3
 | some zz =>
  obtain⟨s2,k⟩:=zz;obtain⟨ty,vx,rfl,he⟩:=hv s2 k rfl;have c5:=fun w=>kindof_c k w;simp only[Option.isSome_some];clear hv;go_wp2_with fail;refine(c5 _).mono ?_;rintro z w4 ⟨rfl,b4⟩;have B4:Below n0 w w4:=B3.trans (b4.mono (by have h1:=B3.size;have h2:=HN.out;omega));by_cases h4:k=4
  ·have hb4:(k==4)=true:=by simpa using h4
   have HZ:Hid (W=false):=by show W=_;rw[HW2.out];simp[h4]
   clear HW2 h4 c5;go_wp2;refine bodyPost_ret (v:=.tuple #[.nilIface,.bool false]) (by simp[results,Tryz.results72,go_sem]) rfl ⟨⟨_,by rw[HZ.out]⟩,?_⟩;rw[<-HN.out];exact B4
  ·have hb4:(k==4)=false:=by simpa using h4
   have HZ:Hid (W=true):=by show W=_;rw[HW2.out];simp[h4,hpos.out s2 k rfl]
   clear HW2 h4 c5;go_wp2;refine bodyPost_ret (v:=.tuple #[.iface ty vx,.bool true]) (by simp[results,Tryz.results72,go_sem]) rfl ⟨⟨_,by rw[HZ.out]⟩,?_⟩;rw[<-HN.out];exact B4
theorem rightp_c (e:Ex)(ao:Option Addr)(cap:Nat)(cv:Value)(cells:List Int)(w:World)(hf:FitN e)(hW:Wd w)(hc:InA w cv cells)(hcl:cells.length<=1000000000)(S:SnA w e.kids ao) :
  Calls Tryz.prog 38 #[plV e ao cap cv] w fun x w'=>x=.returned (.bool (decide (kindP cells e≠0)))/\Below w.heap.size w w':=by
 obtain⟨ac,cc,hcv,hcx⟩:=hc;have hc:InA w cv cells:=⟨ac,cc,hcv,hcx⟩
 subst hcv;clear hcx;have B0:Below w.heap.size w (w.alloc (.cells #[.int .i64 e.k,.int .i64 e.n,stv e.nm,.slice ao e.kids.len cap,.slice ac cells.length cc] 37)):=(Below.refl _ w).alloc (Nat.le_refl _) _;have c1:=read_c e ao cap _ cells _ hf (hW.below B0) (hc.below B0) hcl (SnA.below S B0);generalize decide (kindP cells e≠0)=W at *;rw[plV_out] at c1 ⊢;go_enter Tryz.func38,Tryz.ntmps38;go_wp2_with fail;refine c1.mono ?_;rintro z w1 ⟨⟨v,rfl⟩,b1⟩;have B1:Below w.heap.size w w1:=B0.trans (b1.mono B0.size);clear c1 b1;go_wp2;go_ret;exact⟨rfl,B1⟩
def PostOf (w:World)(e:Ex)(x:Ending)(w':World):Prop :=
 if (typA e).2.1=0 then ∃ay cy,x=.returned (.tuple #[plV (ofE e []) ay cy (.slice none 0 0),.int .i64 0])/\SlN w' (Nw w.heap.size) (ofE e []).kids ay/\Below w.heap.size w w'
 else x=.returned (.tuple #[.agg #[.int .i64 0,.int .i64 0,.string ⟨#[]⟩,.slice none 0 0,.slice none 0 0],.int .i64 140])/\Below w.heap.size w w'
theorem of14_c (e:Ex)(ao:Option Addr)(cap:Nat)(w:World)(hf:e.fit)(hsz:e.kids.size<=1000000)(S:SlT w e.kids ao) :
  Calls Tryz.prog 20 #[exV e ao cap] w (PostOf w e):=by
 obtain⟨w0,hw0⟩:∃w0,w0=(w.alloc (.cells #[.int .i64 e.k,.int .i64 e.n,stv e.nm,.slice ao e.kids.len cap,.int .i64 e.a] 25)).alloc (.cells #[.int .i64 0,.int .i64 0,.string ⟨#[]⟩,.slice none 0 0,.slice none 0 0] 37):=⟨_,rfl⟩
 have B0:Below w.heap.size w w0:=by rw[hw0];exact((Below.refl _ w).alloc (Nat.le_refl _) _).alloc (by simp) _
 have E0:w0.heap[w.heap.size]?=some (.cells #[.int .i64 e.k,.int .i64 e.n,stv e.nm,.slice ao e.kids.len cap,.int .i64 e.a] 25 (0,0)):=by
  rw[hw0];exact(Below.heap_alloc _ _ _ (by simp)).trans (heap_alloc_new w _)
 have Z0:w0.heap[w.heap.size+1]?=some (.cells #[.int .i64 0,.int .i64 0,.string ⟨#[]⟩,.slice none 0 0,.slice none 0 0] 37 (0,0)):=by
  rw[hw0]
  have:=heap_alloc_new (w.alloc (.cells #[.int .i64 e.k,.int .i64 e.n,stv e.nm,.slice ao e.kids.len cap,.int .i64 e.a] 25)) (.cells #[.int .i64 0,.int .i64 0,.string ⟨#[]⟩,.slice none 0 0,.slice none 0 0] 37)
  simpa using this
 have S0:=SlT.below S B0;have c1:=rcheck_q e ao cap w0 hf S0;rw[exV_out] at c1 ⊢;go_enter Tryz.func20,Tryz.ntmps20;go_upto_region 1 with fail;rw[<-hw0];clear hw0;obtain⟨n0,hn0⟩:∃n0,n0=w.heap.size:=⟨_,rfl⟩
 rw[<-hn0] at E0 Z0 B0;try rw[<-hn0]
 have HB:Hid (n0=w.heap.size):=hn0;clear hn0;obtain⟨p0,p1,p2,p3,p4,pf⟩:=box5 E0;have HT:Hid (∀ (x:Ending) (w':World),(if (typA e).2.1=0 then ∃ay cy,x=.returned (.tuple #[plV (ofE e []) ay cy (.slice none 0 0),.int .i64 0])/\SlN w' (Nw w.heap.size) (ofE e []).kids ay/\Below w.heap.size w w' else x=.returned (.tuple #[.agg #[.int .i64 0,.int .i64 0,.string ⟨#[]⟩,.slice none 0 0,.slice none 0 0],.int .i64 140])/\Below w.heap.size w w')->PostOf w e x w'):=fun x w' h=>h;generalize typA e=T at *;obtain⟨tk,te,tp⟩:=T;simp only at HT;go_wp2_with fail;refine c1.mono ?_;rintro x w1 ⟨rfl,b1⟩;have hzl:=lt_of_block Z0;have E1:=(b1.block _ (lt_of_block E0)).trans E0;have Z1:=(b1.block _ hzl).trans Z0;have B1:Below n0 w w1:=B0.trans (b1.mono (by omega));have S1:=SlT.below S0 b1;clear c1 b1 E0 Z0 p0 p1 p2 p3 p4 pf S0 B0;obtain⟨p0,p1,p2,p3,p4,pf⟩:=box5 E1;obtain⟨z0,z1,z2,z3,z4,zf⟩:=box5 Z1;simp only[tupT];by_cases hte:te=0
 ·have hb:((te:Int) != 0)=false:=by simp[hte]
  have c2:=node_ok (e.kids.size+1) e ao cap [] (.slice none 0 0) w1 (by omega) hf.len hf.sh (by simp;omega) (Nms.nil w1) S1;rw[exV_out] at c2;have HT2:Hid (∀ (x:Ending) (w':World),(∃ay cy,x=.returned (.tuple #[plV (ofE e []) ay cy (.slice none 0 0),.int .i64 0])/\SlN w' (Nw w.heap.size) (ofE e []).kids ay/\Below w.heap.size w w')->PostOf w e x w'):=fun x w' h=>HT.out x w' (by rw[if_pos hte];exact h);generalize ofE e []=y at *;clear HT S1 hte z0 z1 z2 z3 z4 zf;go_wp2_with fail;refine c2.mono ?_;rintro x w2 ⟨ay,cy,rfl,S2,b2⟩;have Z2:=(b2.block _ (lt_of_block Z1)).trans Z1;have B2:Below n0 w w2:=B1.trans (b2.mono (by have:=lt_of_block Z1;omega));have hz1:=lt_of_block Z1;have HU:Hid (∃wz,wz=(((((w2.setCell ⟨n0+1,0,none⟩ (.int .i64 y.k)).setCell ⟨n0+1,1,none⟩ (.int .i64 y.n)).setCell ⟨n0+1,2,none⟩ (stv y.nm)).setCell ⟨n0+1,3,none⟩ (.slice ay y.kids.len cy)).setCell ⟨n0+1,4,none⟩ (.slice none 0 0))/\wz.cell? ⟨n0+1,0,none⟩=some (.int .i64 y.k)/\wz.cell? ⟨n0+1,1,none⟩=some (.int .i64 y.n)/\wz.cell? ⟨n0+1,2,none⟩=some (stv y.nm)/\wz.cell? ⟨n0+1,3,none⟩=some (.slice ay y.kids.len cy)/\wz.cell? ⟨n0+1,4,none⟩=some (.slice none 0 0)/\PostOf w e (.returned (.tuple #[.agg #[.int .i64 y.k,.int .i64 y.n,stv y.nm,.slice ay y.kids.len cy,.slice none 0 0],.int .i64 0])) wz):=by
   obtain⟨u0,u1,u2,u3,u4,-⟩:=box5 (set5k (.int .i64 y.k) (.int .i64 y.n) (stv y.nm) (.slice ay y.kids.len cy) (.slice none 0 0) Z2);refine⟨_,rfl,u0,u1,u2,u3,u4,HT2.out _ _ ⟨ay,cy,rfl,?_,?_⟩⟩
   ·exact S2.mono (fun k hp _=>heap_set5 w2 (n0+1) k _ _ _ _ _ (by have hp:w1.heap.size<=k:=hp;omega)) (by simp) (fun k hp _=>by have hp:w1.heap.size<=k:=hp;have:=HB.out;show w.heap.size<=k;omega)
   ·rw[<-HB.out];exact(((((B2.setCell (p:=⟨n0+1,0,none⟩) (Nat.le_succ _) _).setCell (p:=⟨n0+1,1,none⟩) (Nat.le_succ _) _).setCell (p:=⟨n0+1,2,none⟩) (Nat.le_succ _) _).setCell (p:=⟨n0+1,3,none⟩) (Nat.le_succ _) _).setCell (p:=⟨n0+1,4,none⟩) (Nat.le_succ _) _)
  obtain⟨z0,z1,z2,z3,z4,zf⟩:=box5 Z2;clear c2 S2 b2 Z2 B2 Z1 E1 B1 p0 p1 p2 p3 p4 pf HT2 hz1;rw[exN_out];go_wp2;obtain⟨wz,hwz,v0,v1,v2,v3,v4,PZ⟩:=HU.out;rw[<-hwz];exact bodyPost_ret (v:=.tuple #[.agg #[.int .i64 y.k,.int .i64 y.n,stv y.nm,.slice ay y.kids.len cy,.slice none 0 0],.int .i64 0]) (by simp[results,Tryz.results20,go_sem,v0,v1,v2,v3,v4]) rfl PZ
 ·have hb:((te:Int) != 0)=true:=by simp;omega
  have HU:Hid (∃wz,wz=(((((w1.setCell ⟨n0+1,0,none⟩ (.int .i64 0)).setCell ⟨n0+1,1,none⟩ (.int .i64 0)).setCell ⟨n0+1,2,none⟩ (.string ⟨#[]⟩)).setCell ⟨n0+1,3,none⟩ (.slice none 0 0)).setCell ⟨n0+1,4,none⟩ (.slice none 0 0))/\wz.cell? ⟨n0+1,0,none⟩=some (.int .i64 0)/\wz.cell? ⟨n0+1,1,none⟩=some (.int .i64 0)/\wz.cell? ⟨n0+1,2,none⟩=some (.string ⟨#[]⟩)/\wz.cell? ⟨n0+1,3,none⟩=some (.slice none 0 0)/\wz.cell? ⟨n0+1,4,none⟩=some (.slice none 0 0)/\PostOf w e (.returned (.tuple #[.agg #[.int .i64 0,.int .i64 0,.string ⟨#[]⟩,.slice none 0 0,.slice none 0 0],.int .i64 140])) wz):=by
   obtain⟨u0,u1,u2,u3,u4,-⟩:=box5 (set5k (.int .i64 0) (.int .i64 0) (.string ⟨#[]⟩) (.slice none 0 0) (.slice none 0 0) Z1);refine⟨_,rfl,u0,u1,u2,u3,u4,HT.out _ _ ?_⟩;rw[if_neg hte,<-HB.out];exact⟨rfl,(((((B1.setCell (p:=⟨n0+1,0,none⟩) (Nat.le_succ _) _).setCell (p:=⟨n0+1,1,none⟩) (Nat.le_succ _) _).setCell (p:=⟨n0+1,2,none⟩) (Nat.le_succ _) _).setCell (p:=⟨n0+1,3,none⟩) (Nat.le_succ _) _).setCell (p:=⟨n0+1,4,none⟩) (Nat.le_succ _) _)⟩
  clear HT hte E1 Z1 B1 S1;go_wp2;obtain⟨wz,hwz,v0,v1,v2,v3,v4,PZ⟩:=HU.out;rw[<-hwz];exact bodyPost_ret (v:=.tuple #[.agg #[.int .i64 0,.int .i64 0,.string ⟨#[]⟩,.slice none 0 0,.slice none 0 0],.int .i64 140]) (by simp[results,Tryz.results20,go_sem,v0,v1,v2,v3,v4]) rfl PZ
end Go.Proofs.YtkhgahljbpmfaaaGreatDoor
