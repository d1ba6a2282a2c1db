import Derived.Test.YtaihhnlfcndecaaGreatDoorWlkM
namespace Go.Proofs.YtaihhnlfcndecaaGreatDoor
open Go.ChangeShapes Go.WideShapes Go.ChangeAt Go.RowKit
set_option linter.unusedVariables false
set_option linter.unusedSimpArgs false
def Fs.nv:Fs→Prop
 | ⟨none⟩=>True
 | ⟨some ⟨k,n,_,_,ks,r⟩⟩=>(k=5→0≤n)∧ks.nv∧r.nv
def Ex.nv (e:Ex):Prop:=(e.k=5→0≤e.n)∧e.kids.nv
theorem Fs.app_nv:∀ {x y:Fs},(x.app y).nv→x.nv∧y.nv
 | ⟨none⟩,y,h=>⟨trivial,h⟩
 | ⟨some ⟨k,n,nm,a,ks,r⟩⟩,y,h=>⟨⟨h.1,h.2.1,(Fs.app_nv h.2.2).1⟩,(Fs.app_nv h.2.2).2⟩
theorem rgF_nv (cells:List Int):∀ (f:Fs) (pk:Int) (i ar wi:Nat) (s s':Rg) (kd:List Int),rgF cells f pk i ar wi s=some (s',kd)→f.nv
 | ⟨none⟩,pk,i,ar,wi,s,s',kd,h=>trivial
 | ⟨some ⟨k,n,nm,a,ks,r⟩⟩,pk,i,ar,wi,s,s',kd,h=>by
  have h0:rgF cells ⟨some ⟨k,n,nm,a,ks,r⟩⟩ pk i ar wi s=_:=rg_ex cells ⟨k,n,nm,a,ks⟩ r pk i ar wi s
  rw [h0] at h
  cases hx:rgE cells ⟨k,n,nm,a,ks⟩ (spotP pk i ar wi).1 (spotP pk i ar wi).2 s with
  | none=>rw [hx] at h;cases h
  | some z =>
   obtain ⟨s2,k2⟩:=z
   rw [hx] at h
   simp only at h
   cases hr:rgF cells r pk (i+1) ar wi s2 with
   | none=>rw [hr] at h;cases h
   | some z =>
    obtain ⟨s3,rest⟩:=z
    have hd:=docF_of hx
    obtain ⟨-,s1,kd1,hk,-⟩:=rgE_inv hx
    simp only at hd hk
    refine ⟨?_,rgF_nv cells ks k 0 _ _ _ _ _ hk,rgF_nv cells r pk (i+1) ar wi _ _ _ hr⟩
    rintro rfl
    simp [docF] at hd
    omega
theorem rgE_nv {cells:List Int} {e:Ex} {ar wi:Nat} {s s':Rg} {k:Int} (h:rgE cells e ar wi s=some (s',k)):e.nv:=by
 have hd:=docF_of h
 obtain ⟨-,s1,kd1,hk,-⟩:=rgE_inv h
 refine ⟨?_,rgF_nv _ _ _ _ _ _ _ _ _ hk⟩
 intro h5
 rw [h5] at hd
 simp [docF] at hd
 omega
theorem hg_cons (k n:Int) (nm:List UInt8) (a:Int) (ks r:Fs) (ar:Int):hgF (.cons k n nm a ks r) ar=max (hgE ⟨k,n,nm,a,ks⟩ ar) (hgF r ar):=rfl
def HangDOk (N:Nat):Prop:=∀ (e:Ex) (ao:Option Addr) (cap:Nat) (ar:Int) (w:World),e.kids.size < N→e.kids.len≤1000000000→e.kids.short→e.nv→0≤ar→ar≤1000000000→SnA w e.kids ao →
 Calls Tryz.prog 51 #[exN e ao cap,.int .i64 ar] w fun x w'=>x=.returned (.int .i64 (hgE e ar))∧Below w.heap.size w w'
set_option maxRecDepth 100000 in
set_option maxHeartbeats 1000000 in
theorem hangd_step {N:Nat} (IH:HangDOk N):HangDOk (N+1):=by
 intro e ao cap ar w hN hlen hsh hnv h0 h1 S
 obtain ⟨W,hW⟩:∃ W,W=hgE e ar:=⟨_,rfl⟩
 rw [←hW]
 have HW:Hid (W=hgE e ar):=hW
 clear hW
 have B0:Below w.heap.size w (w.alloc (.cells #[.int .i64 e.k,.int .i64 e.n,stv e.nm,.slice ao e.kids.len cap] 34)):=(Below.refl _ w).alloc (Nat.le_refl _) _
 have E0:(w.alloc (.cells #[.int .i64 e.k,.int .i64 e.n,stv e.nm,.slice ao e.kids.len cap] 34)).heap[w.heap.size]?=some (.cells #[.int .i64 e.k,.int .i64 e.n,stv e.nm,.slice ao e.kids.len cap] 34):=heap_alloc_new w _
 rw [exN_out]
 go_enter Tryz.func51,Tryz.ntmps51
 go_upto_region 1 with fail
 generalize w.alloc (.cells #[.int .i64 e.k,.int .i64 e.n,stv e.nm,.slice ao e.kids.len cap] 34)=w0 at *
 obtain ⟨bx,hbx⟩:∃ bx,bx=w.heap.size:=⟨_,rfl⟩
 rw [←hbx] at E0 B0 ⊢
 have HB:Hid (bx=w.heap.size):=hbx
 clear hbx
 obtain ⟨c0,hc0⟩:∃ c0:Int,c0=if e.k=5∧e.n < ar then e.n+1 else 0:=⟨_,rfl⟩
 have hcb:0≤c0∧c0≤ar:=by
  rw [hc0]
  split
  ·have:=hnv.1 (by omega)
   omega
  ·omega
 have HA0:Hid (max c0 (hgF e.kids ar)=W):=by show _=W;rw [HW.out,hc0];rfl
 clear HW
 obtain ⟨p0,p1,p2,p3,pf⟩:=box4 E0
 by_cases hv:e.k=5
 ·have hkb:(e.k == 5)=true:=by simpa using hv
  by_cases hv2:e.n < ar
  ·have hv3:=hnv.1 hv
   obtain rfl:c0=e.n+1:=by rw [hc0,if_pos ⟨hv,hv2⟩]
   clear hv hc0
   go_wp2
   go_loopw [5,6] (fun v1 v5 wr=>∃ (done r:Fs) (c:Int),Hid (e.kids=done.app r)∧v1=.int .i64 c∧v5=.int .i64 (done.len:Nat)∧0≤c∧c≤ar∧Hid (max c (hgF r ar)=W)∧wr.heap[bx]?=some (.cells #[.int .i64 e.k,.int .i64 e.n,stv e.nm,.slice ao e.kids.len cap] 34)∧Below bx w wr) (fun _ v5 _=>e.kids.len - (intOf v5).toNat)
   case atStart=>exact ⟨.nil,e.kids,e.n+1,rfl,rfl,by show _=Value.int .i64 ((0:Nat):Int);rfl,hcb.1,hcb.2,HA0,E0,B0⟩
   case round =>
    clear E0 B0 HA0 p0 p1 p2 p3 pf hcb
    obtain ⟨done,r,c,hk,rfl,rfl,hc0,hc1,HA,E1,B1⟩:=hrel
    have hlk:e.kids.len=done.len+r.len:=by rw [hk.out,Fs.len_app]
    obtain ⟨p0,p1,p2,p3,pf⟩:=box4 E1
    cases r using Fs.on with
    | nil =>
     have hlt:¬ (done.len:Int) < (e.kids.len:Int):=by simp only [Fs.len] at hlk;omega
     have FIN:Hid (W=c):=by show W=c;rw [←HA.out];simp only [hgF];omega
     clear HA hlk
     go_wp2
     go_ret
     rw [FIN.out]
     exact ⟨rfl,by rw [←HB.out];exact B1⟩
    | cons kk kn km ka kks kr =>
     have hlt:(done.len:Int) < (e.kids.len:Int):=by simp only [Fs.len] at hlk;omega
     have hl3:done.len < e.kids.len:=by omega
     have hsz:e.kids.size=done.size+(kks.size+kr.size+1):=by rw [hk.out,Fs.size_app];rfl
     have hwk:(Fs.cons kk kn km ka kks kr).short:=Fs.app_short (x:=done) (by rw [←hk.out];exact hsh)
     have hnk:(Fs.cons kk kn km ka kks kr).nv:=(Fs.app_nv (x:=done) (by rw [←hk.out];exact hnv.2)).2
     obtain ⟨b,off,ak,ck,hao,lb1,-,x0,x1,x2,x3,SK⟩:=SlN.kidQ (by rw [←hk.out];exact SnA.below S (by rw [←HB.out];exact B1))
     subst hao
     have hbd:=hgE_le ar h0 ⟨kk,kn,km,ka,kks⟩
     have hbp:=hgE_pos ar ⟨kk,kn,km,ka,kks⟩
     have HA2:Hid (max (max c (hgE ⟨kk,kn,km,ka,kks⟩ ar)) (hgF kr ar)=W):=by show _=W;rw [←HA.out,hg_cons];generalize hgE ⟨kk,kn,km,ka,kks⟩ ar=z;generalize hgF kr ar=y;omega
     have hk2:Hid (e.kids=(done.snoc ⟨kk,kn,km,ka,kks⟩).app kr):=by show e.kids=_;rw [hk.out];unfold Fs.snoc;rw [Fs.app_assoc];rfl
     have hl2:(done.len:Int)+1=((done.snoc ⟨kk,kn,km,ka,kks⟩).len:Nat):=by rw [Fs.len_snoc];rfl
     have hcc:=IH ⟨kk,kn,km,ka,kks⟩ ak ck ar wr (by show kks.size < N;omega) hwk.2.1 hwk.2.2.1 ⟨hnk.1,hnk.2.1⟩ h0 h1 SK
     rw [exN_out] at hcc
     simp only at hcc
     generalize hgE ⟨kk,kn,km,ka,kks⟩ ar=c2 at *
     clear HA hlk hsz hwk SK hk hnk
     go_wp2_with fail
     refine hcc.mono ?_
     rintro x w2 ⟨rfl,b2⟩
     have B2:=B1.trans (b2.mono (by have:=lt_of_block E1;omega))
     have E2:=(b2.block bx (lt_of_block E1)).trans E1
     clear hcc x0 x1 x2 x3 p0 p1 p2 p3 pf b2 E1 B1
     go_wp2
     go_roundw
     case rel=>exact ⟨_,kr,max c c2,hk2,rfl,by rw [←hl2],by omega,by omega,HA2,E2,B2⟩
     case measure=>simp [intOf];omega
  ·obtain rfl:c0=0:=by rw [hc0,if_neg (fun h=>hv2 h.2)]
   clear hv hc0
   go_wp2
   go_loopw [5,6] (fun v1 v5 wr=>∃ (done r:Fs) (c:Int),Hid (e.kids=done.app r)∧v1=.int .i64 c∧v5=.int .i64 (done.len:Nat)∧0≤c∧c≤ar∧Hid (max c (hgF r ar)=W)∧wr.heap[bx]?=some (.cells #[.int .i64 e.k,.int .i64 e.n,stv e.nm,.slice ao e.kids.len cap] 34)∧Below bx w wr) (fun _ v5 _=>e.kids.len - (intOf v5).toNat)
   case atStart=>exact ⟨.nil,e.kids,0,rfl,rfl,by show _=Value.int .i64 ((0:Nat):Int);rfl,hcb.1,hcb.2,HA0,E0,B0⟩
   case round =>
    clear E0 B0 HA0 p0 p1 p2 p3 pf hcb
    obtain ⟨done,r,c,hk,rfl,rfl,hc0,hc1,HA,E1,B1⟩:=hrel
    have hlk:e.kids.len=done.len+r.len:=by rw [hk.out,Fs.len_app]
    obtain ⟨p0,p1,p2,p3,pf⟩:=box4 E1
    cases r using Fs.on with
    | nil =>
     have hlt:¬ (done.len:Int) < (e.kids.len:Int):=by simp only [Fs.len] at hlk;omega
     have FIN:Hid (W=c):=by show W=c;rw [←HA.out];simp only [hgF];omega
     clear HA hlk
     go_wp2
     go_ret
     rw [FIN.out]
     exact ⟨rfl,by rw [←HB.out];exact B1⟩
    | cons kk kn km ka kks kr =>
     have hlt:(done.len:Int) < (e.kids.len:Int):=by simp only [Fs.len] at hlk;omega
     have hl3:done.len < e.kids.len:=by omega
     have hsz:e.kids.size=done.size+(kks.size+kr.size+1):=by rw [hk.out,Fs.size_app];rfl
     have hwk:(Fs.cons kk kn km ka kks kr).short:=Fs.app_short (x:=done) (by rw [←hk.out];exact hsh)
     have hnk:(Fs.cons kk kn km ka kks kr).nv:=(Fs.app_nv (x:=done) (by rw [←hk.out];exact hnv.2)).2
     obtain ⟨b,off,ak,ck,hao,lb1,-,x0,x1,x2,x3,SK⟩:=SlN.kidQ (by rw [←hk.out];exact SnA.below S (by rw [←HB.out];exact B1))
     subst hao
     have hbd:=hgE_le ar h0 ⟨kk,kn,km,ka,kks⟩
     have hbp:=hgE_pos ar ⟨kk,kn,km,ka,kks⟩
     have HA2:Hid (max (max c (hgE ⟨kk,kn,km,ka,kks⟩ ar)) (hgF kr ar)=W):=by show _=W;rw [←HA.out,hg_cons];generalize hgE ⟨kk,kn,km,ka,kks⟩ ar=z;generalize hgF kr ar=y;omega
     have hk2:Hid (e.kids=(done.snoc ⟨kk,kn,km,ka,kks⟩).app kr):=by show e.kids=_;rw [hk.out];unfold Fs.snoc;rw [Fs.app_assoc];rfl
     have hl2:(done.len:Int)+1=((done.snoc ⟨kk,kn,km,ka,kks⟩).len:Nat):=by rw [Fs.len_snoc];rfl
     have hcc:=IH ⟨kk,kn,km,ka,kks⟩ ak ck ar wr (by show kks.size < N;omega) hwk.2.1 hwk.2.2.1 ⟨hnk.1,hnk.2.1⟩ h0 h1 SK
     rw [exN_out] at hcc
     simp only at hcc
     generalize hgE ⟨kk,kn,km,ka,kks⟩ ar=c2 at *
     clear HA hlk hsz hwk SK hk hnk
     go_wp2_with fail
     refine hcc.mono ?_
     rintro x w2 ⟨rfl,b2⟩
     have B2:=B1.trans (b2.mono (by have:=lt_of_block E1;omega))
     have E2:=(b2.block bx (lt_of_block E1)).trans E1
     clear hcc x0 x1 x2 x3 p0 p1 p2 p3 pf b2 E1 B1
     go_wp2
     go_roundw
     case rel=>exact ⟨_,kr,max c c2,hk2,rfl,by rw [←hl2],by omega,by omega,HA2,E2,B2⟩
     case measure=>simp [intOf];omega
 ·have hkb:(e.k == 5)=false:=by simpa using hv
  obtain rfl:c0=0:=by rw [hc0,if_neg (fun h=>hv h.1)]
  clear hv hc0
  go_wp2
  go_loopw [5,6] (fun v1 v5 wr=>∃ (done r:Fs) (c:Int),Hid (e.kids=done.app r)∧v1=.int .i64 c∧v5=.int .i64 (done.len:Nat)∧0≤c∧c≤ar∧Hid (max c (hgF r ar)=W)∧wr.heap[bx]?=some (.cells #[.int .i64 e.k,.int .i64 e.n,stv e.nm,.slice ao e.kids.len cap] 34)∧Below bx w wr) (fun _ v5 _=>e.kids.len - (intOf v5).toNat)
  case atStart=>exact ⟨.nil,e.kids,0,rfl,rfl,by show _=Value.int .i64 ((0:Nat):Int);rfl,hcb.1,hcb.2,HA0,E0,B0⟩
  case round =>
   clear E0 B0 HA0 p0 p1 p2 p3 pf hcb
   obtain ⟨done,r,c,hk,rfl,rfl,hc0,hc1,HA,E1,B1⟩:=hrel
   have hlk:e.kids.len=done.len+r.len:=by rw [hk.out,Fs.len_app]
   obtain ⟨p0,p1,p2,p3,pf⟩:=box4 E1
   cases r using Fs.on with
   | nil =>
    have hlt:¬ (done.len:Int) < (e.kids.len:Int):=by simp only [Fs.len] at hlk;omega
    have FIN:Hid (W=c):=by show W=c;rw [←HA.out];simp only [hgF];omega
    clear HA hlk
    go_wp2
    go_ret
    rw [FIN.out]
    exact ⟨rfl,by rw [←HB.out];exact B1⟩
   | cons kk kn km ka kks kr =>
    have hlt:(done.len:Int) < (e.kids.len:Int):=by simp only [Fs.len] at hlk;omega
    have hl3:done.len < e.kids.len:=by omega
    have hsz:e.kids.size=done.size+(kks.size+kr.size+1):=by rw [hk.out,Fs.size_app];rfl
    have hwk:(Fs.cons kk kn km ka kks kr).short:=Fs.app_short (x:=done) (by rw [←hk.out];exact hsh)
    have hnk:(Fs.cons kk kn km ka kks kr).nv:=(Fs.app_nv (x:=done) (by rw [←hk.out];exact hnv.2)).2
    obtain ⟨b,off,ak,ck,hao,lb1,-,x0,x1,x2,x3,SK⟩:=SlN.kidQ (by rw [←hk.out];exact SnA.below S (by rw [←HB.out];exact B1))
    subst hao
    have hbd:=hgE_le ar h0 ⟨kk,kn,km,ka,kks⟩
    have hbp:=hgE_pos ar ⟨kk,kn,km,ka,kks⟩
    have HA2:Hid (max (max c (hgE ⟨kk,kn,km,ka,kks⟩ ar)) (hgF kr ar)=W):=by show _=W;rw [←HA.out,hg_cons];generalize hgE ⟨kk,kn,km,ka,kks⟩ ar=z;generalize hgF kr ar=y;omega
    have hk2:Hid (e.kids=(done.snoc ⟨kk,kn,km,ka,kks⟩).app kr):=by show e.kids=_;rw [hk.out];unfold Fs.snoc;rw [Fs.app_assoc];rfl
    have hl2:(done.len:Int)+1=((done.snoc ⟨kk,kn,km,ka,kks⟩).len:Nat):=by rw [Fs.len_snoc];rfl
    have hcc:=IH ⟨kk,kn,km,ka,kks⟩ ak ck ar wr (by show kks.size < N;omega) hwk.2.1 hwk.2.2.1 ⟨hnk.1,hnk.2.1⟩ h0 h1 SK
    rw [exN_out] at hcc
    simp only at hcc
    generalize hgE ⟨kk,kn,km,ka,kks⟩ ar=c2 at *
    clear HA hlk hsz hwk SK hk hnk
    go_wp2_with fail
    refine hcc.mono ?_
    rintro x w2 ⟨rfl,b2⟩
    have B2:=B1.trans (b2.mono (by have:=lt_of_block E1;omega))
    have E2:=(b2.block bx (lt_of_block E1)).trans E1
    clear hcc x0 x1 x2 x3 p0 p1 p2 p3 pf b2 E1 B1
    go_wp2
    go_roundw
    case rel=>exact ⟨_,kr,max c c2,hk2,rfl,by rw [←hl2],by omega,by omega,HA2,E2,B2⟩
    case measure=>simp [intOf];omega
theorem hangd_ok:∀ N,HangDOk N -- 51
 | 0=>fun e ao cap ar w h=>absurd h (Nat.not_lt_zero _)
 | N+1=>hangd_step (hangd_ok N)
def HangNOk (N:Nat):Prop:=∀ (e:Ex) (ao:Option Addr) (cap:Nat) (ar:Int) (w:World),e.kids.size < N→e.kids.len≤1000000000→e.kids.short→e.nv→0≤ar→ar≤1000000000→SnA w e.kids ao →
 Calls Tryz.prog 80 #[exN e ao cap,.int .i64 ar] w fun x w'=>x=.returned (.int .i64 (hgE e ar))∧Below w.heap.size w w'
set_option maxRecDepth 100000 in
set_option maxHeartbeats 1000000 in
theorem hangn_step {N:Nat} (IH:HangNOk N):HangNOk (N+1):=by
 intro e ao cap ar w hN hlen hsh hnv h0 h1 S
 obtain ⟨W,hW⟩:∃ W,W=hgE e ar:=⟨_,rfl⟩
 rw [←hW]
 have HW:Hid (W=hgE e ar):=hW
 clear hW
 have B0:Below w.heap.size w (w.alloc (.cells #[.int .i64 e.k,.int .i64 e.n,stv e.nm,.slice ao e.kids.len cap] 34)):=(Below.refl _ w).alloc (Nat.le_refl _) _
 have E0:(w.alloc (.cells #[.int .i64 e.k,.int .i64 e.n,stv e.nm,.slice ao e.kids.len cap] 34)).heap[w.heap.size]?=some (.cells #[.int .i64 e.k,.int .i64 e.n,stv e.nm,.slice ao e.kids.len cap] 34):=heap_alloc_new w _
 rw [exN_out]
 go_enter Tryz.func80,Tryz.ntmps80
 go_upto_region 1 with fail
 generalize w.alloc (.cells #[.int .i64 e.k,.int .i64 e.n,stv e.nm,.slice ao e.kids.len cap] 34)=w0 at *
 obtain ⟨bx,hbx⟩:∃ bx,bx=w.heap.size:=⟨_,rfl⟩
 rw [←hbx] at E0 B0 ⊢
 have HB:Hid (bx=w.heap.size):=hbx
 clear hbx
 obtain ⟨c0,hc0⟩:∃ c0:Int,c0=if e.k=5∧e.n < ar then e.n+1 else 0:=⟨_,rfl⟩
 have hcb:0≤c0∧c0≤ar:=by
  rw [hc0]
  split
  ·have:=hnv.1 (by omega)
   omega
  ·omega
 have HA0:Hid (max c0 (hgF e.kids ar)=W):=by show _=W;rw [HW.out,hc0];rfl
 clear HW
 obtain ⟨p0,p1,p2,p3,pf⟩:=box4 E0
 by_cases hv:e.k=5
 ·have hkb:(e.k == 5)=true:=by simpa using hv
  by_cases hv2:e.n < ar
  ·have hv3:=hnv.1 hv
   obtain rfl:c0=e.n+1:=by rw [hc0,if_pos ⟨hv,hv2⟩]
   clear hv hc0
   go_wp2
   go_loopw [5,23] (fun v1 v5 wr=>∃ (done r:Fs) (c:Int),Hid (e.kids=done.app r)∧v1=.int .i64 c∧v5=.int .i64 (done.len:Nat)∧0≤c∧c≤ar∧Hid (max c (hgF r ar)=W)∧wr.heap[bx]?=some (.cells #[.int .i64 e.k,.int .i64 e.n,stv e.nm,.slice ao e.kids.len cap] 34)∧Below bx w wr) (fun _ v5 _=>e.kids.len - (intOf v5).toNat)
   case atStart=>exact ⟨.nil,e.kids,e.n+1,rfl,rfl,by show _=Value.int .i64 ((0:Nat):Int);rfl,hcb.1,hcb.2,HA0,E0,B0⟩
   case round =>
    clear E0 B0 HA0 p0 p1 p2 p3 pf hcb
    obtain ⟨done,r,c,hk,rfl,rfl,hc0,hc1,HA,E1,B1⟩:=hrel
    have hlk:e.kids.len=done.len+r.len:=by rw [hk.out,Fs.len_app]
    obtain ⟨p0,p1,p2,p3,pf⟩:=box4 E1
    cases r using Fs.on with
    | nil =>
     have hlt:¬ (done.len:Int) < (e.kids.len:Int):=by simp only [Fs.len] at hlk;omega
     have FIN:Hid (W=c):=by show W=c;rw [←HA.out];simp only [hgF];omega
     clear HA hlk
     go_wp2
     go_ret
     rw [FIN.out]
     exact ⟨rfl,by rw [←HB.out];exact B1⟩
    | cons kk kn km ka kks kr =>
     have hlt:(done.len:Int) < (e.kids.len:Int):=by simp only [Fs.len] at hlk;omega
     have hl3:done.len < e.kids.len:=by omega
     have hsz:e.kids.size=done.size+(kks.size+kr.size+1):=by rw [hk.out,Fs.size_app];rfl
     have hwk:(Fs.cons kk kn km ka kks kr).short:=Fs.app_short (x:=done) (by rw [←hk.out];exact hsh)
     have hnk:(Fs.cons kk kn km ka kks kr).nv:=(Fs.app_nv (x:=done) (by rw [←hk.out];exact hnv.2)).2
     obtain ⟨b,off,ak,ck,hao,lb1,-,x0,x1,x2,x3,SK⟩:=SlN.kidQ (by rw [←hk.out];exact SnA.below S (by rw [←HB.out];exact B1))
     subst hao
     have hbd:=hgE_le ar h0 ⟨kk,kn,km,ka,kks⟩
     have hbp:=hgE_pos ar ⟨kk,kn,km,ka,kks⟩
     have HA2:Hid (max (max c (hgE ⟨kk,kn,km,ka,kks⟩ ar)) (hgF kr ar)=W):=by show _=W;rw [←HA.out,hg_cons];generalize hgE ⟨kk,kn,km,ka,kks⟩ ar=z;generalize hgF kr ar=y;omega
     have hk2:Hid (e.kids=(done.snoc ⟨kk,kn,km,ka,kks⟩).app kr):=by show e.kids=_;rw [hk.out];unfold Fs.snoc;rw [Fs.app_assoc];rfl
     have hl2:(done.len:Int)+1=((done.snoc ⟨kk,kn,km,ka,kks⟩).len:Nat):=by rw [Fs.len_snoc];rfl
     have hbk:=lt_of_block E1
     have B3:Below wr.heap.size wr (wr.alloc (.cells #[.int .i64 kk,.int .i64 kn,stv km,.slice ak kks.len ck] 34)):=(Below.refl _ wr).alloc (Nat.le_refl _) _
     have Z3:(wr.alloc (.cells #[.int .i64 kk,.int .i64 kn,stv km,.slice ak kks.len ck] 34)).heap[wr.heap.size]?=some (.cells #[.int .i64 kk,.int .i64 kn,stv km,.slice ak kks.len ck] 34):=heap_alloc_new wr _
     have SK3:=SnA.below SK B3
     clear HA hlk SK hk
     go_upto_region 7 with fail
     generalize wr.alloc (.cells #[.int .i64 kk,.int .i64 kn,stv km,.slice ak kks.len ck] 34)=w3 at *
     obtain ⟨zb,hzb⟩:∃ zb,zb=wr.heap.size:=⟨_,rfl⟩
     rw [←hzb] at Z3 ⊢
     have HZB:Hid (zb=wr.heap.size):=hzb
     have hcc:=IH ⟨kk,kn,km,ka,kks⟩ ak ck ar w3 (by show kks.size < N;omega) hwk.2.1 hwk.2.2.1 ⟨hnk.1,hnk.2.1⟩ h0 h1 SK3
     rw [exN_out] at hcc
     simp only at hcc
     generalize hgE ⟨kk,kn,km,ka,kks⟩ ar=c2 at *
     obtain ⟨z0,z1,z2,z3,zf⟩:=box4 Z3
     have hs3:=lt_of_block Z3
     have B13:Below bx w w3:=B1.trans (B3.mono (by omega))
     have E3:=(B3.block bx hbk).trans E1
     clear hsz hwk hnk hzb SK3 x0 x1 x2 x3 p0 p1 p2 p3 pf E1 B1 B3
     go_wp2_with fail
     refine hcc.mono ?_
     rintro x w2 ⟨rfl,b2⟩
     have B2:=B13.trans (b2.mono (by have:=lt_of_block E3;omega))
     have E2:=(b2.block bx (lt_of_block E3)).trans E3
     clear hcc z0 z1 z2 z3 zf b2 E3 B13 Z3
     go_wp2
     go_roundw
     case rel=>exact ⟨_,kr,max c c2,hk2,rfl,by rw [←hl2],by omega,by omega,HA2,E2,B2⟩
     case measure=>simp [intOf];omega
  ·obtain rfl:c0=0:=by rw [hc0,if_neg (fun h=>hv2 h.2)]
   clear hv hc0
   go_wp2
   go_loopw [5,23] (fun v1 v5 wr=>∃ (done r:Fs) (c:Int),Hid (e.kids=done.app r)∧v1=.int .i64 c∧v5=.int .i64 (done.len:Nat)∧0≤c∧c≤ar∧Hid (max c (hgF r ar)=W)∧wr.heap[bx]?=some (.cells #[.int .i64 e.k,.int .i64 e.n,stv e.nm,.slice ao e.kids.len cap] 34)∧Below bx w wr) (fun _ v5 _=>e.kids.len - (intOf v5).toNat)
   case atStart=>exact ⟨.nil,e.kids,0,rfl,rfl,by show _=Value.int .i64 ((0:Nat):Int);rfl,hcb.1,hcb.2,HA0,E0,B0⟩
   case round =>
    clear E0 B0 HA0 p0 p1 p2 p3 pf hcb
    obtain ⟨done,r,c,hk,rfl,rfl,hc0,hc1,HA,E1,B1⟩:=hrel
    have hlk:e.kids.len=done.len+r.len:=by rw [hk.out,Fs.len_app]
    obtain ⟨p0,p1,p2,p3,pf⟩:=box4 E1
    cases r using Fs.on with
    | nil =>
     have hlt:¬ (done.len:Int) < (e.kids.len:Int):=by simp only [Fs.len] at hlk;omega
     have FIN:Hid (W=c):=by show W=c;rw [←HA.out];simp only [hgF];omega
     clear HA hlk
     go_wp2
     go_ret
     rw [FIN.out]
     exact ⟨rfl,by rw [←HB.out];exact B1⟩
    | cons kk kn km ka kks kr =>
     have hlt:(done.len:Int) < (e.kids.len:Int):=by simp only [Fs.len] at hlk;omega
     have hl3:done.len < e.kids.len:=by omega
     have hsz:e.kids.size=done.size+(kks.size+kr.size+1):=by rw [hk.out,Fs.size_app];rfl
     have hwk:(Fs.cons kk kn km ka kks kr).short:=Fs.app_short (x:=done) (by rw [←hk.out];exact hsh)
     have hnk:(Fs.cons kk kn km ka kks kr).nv:=(Fs.app_nv (x:=done) (by rw [←hk.out];exact hnv.2)).2
     obtain ⟨b,off,ak,ck,hao,lb1,-,x0,x1,x2,x3,SK⟩:=SlN.kidQ (by rw [←hk.out];exact SnA.below S (by rw [←HB.out];exact B1))
     subst hao
     have hbd:=hgE_le ar h0 ⟨kk,kn,km,ka,kks⟩
     have hbp:=hgE_pos ar ⟨kk,kn,km,ka,kks⟩
     have HA2:Hid (max (max c (hgE ⟨kk,kn,km,ka,kks⟩ ar)) (hgF kr ar)=W):=by show _=W;rw [←HA.out,hg_cons];generalize hgE ⟨kk,kn,km,ka,kks⟩ ar=z;generalize hgF kr ar=y;omega
     have hk2:Hid (e.kids=(done.snoc ⟨kk,kn,km,ka,kks⟩).app kr):=by show e.kids=_;rw [hk.out];unfold Fs.snoc;rw [Fs.app_assoc];rfl
     have hl2:(done.len:Int)+1=((done.snoc ⟨kk,kn,km,ka,kks⟩).len:Nat):=by rw [Fs.len_snoc];rfl
     have hbk:=lt_of_block E1
     have B3:Below wr.heap.size wr (wr.alloc (.cells #[.int .i64 kk,.int .i64 kn,stv km,.slice ak kks.len ck] 34)):=(Below.refl _ wr).alloc (Nat.le_refl _) _
     have Z3:(wr.alloc (.cells #[.int .i64 kk,.int .i64 kn,stv km,.slice ak kks.len ck] 34)).heap[wr.heap.size]?=some (.cells #[.int .i64 kk,.int .i64 kn,stv km,.slice ak kks.len ck] 34):=heap_alloc_new wr _
     have SK3:=SnA.below SK B3
     clear HA hlk SK hk
     go_upto_region 7 with fail
     generalize wr.alloc (.cells #[.int .i64 kk,.int .i64 kn,stv km,.slice ak kks.len ck] 34)=w3 at *
     obtain ⟨zb,hzb⟩:∃ zb,zb=wr.heap.size:=⟨_,rfl⟩
     rw [←hzb] at Z3 ⊢
     have HZB:Hid (zb=wr.heap.size):=hzb
     have hcc:=IH ⟨kk,kn,km,ka,kks⟩ ak ck ar w3 (by show kks.size < N;omega) hwk.2.1 hwk.2.2.1 ⟨hnk.1,hnk.2.1⟩ h0 h1 SK3
     rw [exN_out] at hcc
     simp only at hcc
     generalize hgE ⟨kk,kn,km,ka,kks⟩ ar=c2 at *
     obtain ⟨z0,z1,z2,z3,zf⟩:=box4 Z3
     have hs3:=lt_of_block Z3
     have B13:Below bx w w3:=B1.trans (B3.mono (by omega))
     have E3:=(B3.block bx hbk).trans E1
     clear hsz hwk hnk hzb SK3 x0 x1 x2 x3 p0 p1 p2 p3 pf E1 B1 B3
     go_wp2_with fail
     refine hcc.mono ?_
     rintro x w2 ⟨rfl,b2⟩
     have B2:=B13.trans (b2.mono (by have:=lt_of_block E3;omega))
     have E2:=(b2.block bx (lt_of_block E3)).trans E3
     clear hcc z0 z1 z2 z3 zf b2 E3 B13 Z3
     go_wp2
     go_roundw
     case rel=>exact ⟨_,kr,max c c2,hk2,rfl,by rw [←hl2],by omega,by omega,HA2,E2,B2⟩
     case measure=>simp [intOf];omega
 ·have hkb:(e.k == 5)=false:=by simpa using hv
  obtain rfl:c0=0:=by rw [hc0,if_neg (fun h=>hv h.1)]
  clear hv hc0
  go_wp2
  go_loopw [5,23] (fun v1 v5 wr=>∃ (done r:Fs) (c:Int),Hid (e.kids=done.app r)∧v1=.int .i64 c∧v5=.int .i64 (done.len:Nat)∧0≤c∧c≤ar∧Hid (max c (hgF r ar)=W)∧wr.heap[bx]?=some (.cells #[.int .i64 e.k,.int .i64 e.n,stv e.nm,.slice ao e.kids.len cap] 34)∧Below bx w wr) (fun _ v5 _=>e.kids.len - (intOf v5).toNat)
  case atStart=>exact ⟨.nil,e.kids,0,rfl,rfl,by show _=Value.int .i64 ((0:Nat):Int);rfl,hcb.1,hcb.2,HA0,E0,B0⟩
  case round =>
   clear E0 B0 HA0 p0 p1 p2 p3 pf hcb
   obtain ⟨done,r,c,hk,rfl,rfl,hc0,hc1,HA,E1,B1⟩:=hrel
   have hlk:e.kids.len=done.len+r.len:=by rw [hk.out,Fs.len_app]
   obtain ⟨p0,p1,p2,p3,pf⟩:=box4 E1
   cases r using Fs.on with
   | nil =>
    have hlt:¬ (done.len:Int) < (e.kids.len:Int):=by simp only [Fs.len] at hlk;omega
    have FIN:Hid (W=c):=by show W=c;rw [←HA.out];simp only [hgF];omega
    clear HA hlk
    go_wp2
    go_ret
    rw [FIN.out]
    exact ⟨rfl,by rw [←HB.out];exact B1⟩
   | cons kk kn km ka kks kr =>
    have hlt:(done.len:Int) < (e.kids.len:Int):=by simp only [Fs.len] at hlk;omega
    have hl3:done.len < e.kids.len:=by omega
    have hsz:e.kids.size=done.size+(kks.size+kr.size+1):=by rw [hk.out,Fs.size_app];rfl
    have hwk:(Fs.cons kk kn km ka kks kr).short:=Fs.app_short (x:=done) (by rw [←hk.out];exact hsh)
    have hnk:(Fs.cons kk kn km ka kks kr).nv:=(Fs.app_nv (x:=done) (by rw [←hk.out];exact hnv.2)).2
    obtain ⟨b,off,ak,ck,hao,lb1,-,x0,x1,x2,x3,SK⟩:=SlN.kidQ (by rw [←hk.out];exact SnA.below S (by rw [←HB.out];exact B1))
    subst hao
    have hbd:=hgE_le ar h0 ⟨kk,kn,km,ka,kks⟩
    have hbp:=hgE_pos ar ⟨kk,kn,km,ka,kks⟩
    have HA2:Hid (max (max c (hgE ⟨kk,kn,km,ka,kks⟩ ar)) (hgF kr ar)=W):=by show _=W;rw [←HA.out,hg_cons];generalize hgE ⟨kk,kn,km,ka,kks⟩ ar=z;generalize hgF kr ar=y;omega
    have hk2:Hid (e.kids=(done.snoc ⟨kk,kn,km,ka,kks⟩).app kr):=by show e.kids=_;rw [hk.out];unfold Fs.snoc;rw [Fs.app_assoc];rfl
    have hl2:(done.len:Int)+1=((done.snoc ⟨kk,kn,km,ka,kks⟩).len:Nat):=by rw [Fs.len_snoc];rfl
    have hbk:=lt_of_block E1
    have B3:Below wr.heap.size wr (wr.alloc (.cells #[.int .i64 kk,.int .i64 kn,stv km,.slice ak kks.len ck] 34)):=(Below.refl _ wr).alloc (Nat.le_refl _) _
    have Z3:(wr.alloc (.cells #[.int .i64 kk,.int .i64 kn,stv km,.slice ak kks.len ck] 34)).heap[wr.heap.size]?=some (.cells #[.int .i64 kk,.int .i64 kn,stv km,.slice ak kks.len ck] 34):=heap_alloc_new wr _
    have SK3:=SnA.below SK B3
    clear HA hlk SK hk
    go_upto_region 7 with fail
    generalize wr.alloc (.cells #[.int .i64 kk,.int .i64 kn,stv km,.slice ak kks.len ck] 34)=w3 at *
    obtain ⟨zb,hzb⟩:∃ zb,zb=wr.heap.size:=⟨_,rfl⟩
    rw [←hzb] at Z3 ⊢
    have HZB:Hid (zb=wr.heap.size):=hzb
    have hcc:=IH ⟨kk,kn,km,ka,kks⟩ ak ck ar w3 (by show kks.size < N;omega) hwk.2.1 hwk.2.2.1 ⟨hnk.1,hnk.2.1⟩ h0 h1 SK3
    rw [exN_out] at hcc
    simp only at hcc
    generalize hgE ⟨kk,kn,km,ka,kks⟩ ar=c2 at *
    obtain ⟨z0,z1,z2,z3,zf⟩:=box4 Z3
    have hs3:=lt_of_block Z3
    have B13:Below bx w w3:=B1.trans (B3.mono (by omega))
    have E3:=(B3.block bx hbk).trans E1
    clear hsz hwk hnk hzb SK3 x0 x1 x2 x3 p0 p1 p2 p3 pf E1 B1 B3
    go_wp2_with fail
    refine hcc.mono ?_
    rintro x w2 ⟨rfl,b2⟩
    have B2:=B13.trans (b2.mono (by have:=lt_of_block E3;omega))
    have E2:=(b2.block bx (lt_of_block E3)).trans E3
    clear hcc z0 z1 z2 z3 zf b2 E3 B13 Z3
    go_wp2
    go_roundw
    case rel=>exact ⟨_,kr,max c c2,hk2,rfl,by rw [←hl2],by omega,by omega,HA2,E2,B2⟩
    case measure=>simp [intOf];omega
theorem hangn_ok:∀ N,HangNOk N -- 80
 | 0=>fun e ao cap ar w h=>absurd h (Nat.not_lt_zero _)
 | N+1=>hangn_step (hangn_ok N)
end Go.Proofs.YtaihhnlfcndecaaGreatDoor
