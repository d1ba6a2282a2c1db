import Derived.Test.YtaihhnlfcndecaaGreatDoorHlvM
import Derived.Test.YtaihhnlfcndecaaGreatDoorRows
import Derived.SizedLaws
import Derived.Lib.LaidTab
import Derived.Stop.LaidErr
import Derived.ShutString
import Derived.Deep.DeepHandedRow
namespace Go.Proofs.YtaihhnlfcndecaaGreatDoor
open Go.ChangeShapes Go.WideShapes Go.ChangeAt Go.RowKit
set_option linter.unusedVariables false
set_option linter.unusedSimpArgs false
def PartsOk (N:Nat):Prop:=∀ (e:Ex) (ao:Option Addr) (cap:Nat) (w:World),e.kids.size < N→e.kids.len≤1000000000→e.kids.short→e.kids.size≤1000000000→SnA w e.kids ao →
 Calls Tryz.prog 26 #[exN e ao cap] w fun x w'=>x=.returned (.int .i64 ((e.kids.size+1:Nat):Int))∧Below w.heap.size w w'
set_option maxRecDepth 100000 in
set_option maxHeartbeats 1000000 in
theorem parts_step {N:Nat} (IH:PartsOk N):PartsOk (N+1):=by
 intro e ao cap w hN hlen hsh hse S
 have B0:Below w.heap.size w (w.alloc (.cells #[.int .i64 e.k,.int .i64 e.n,stv e.nm,.slice ao e.kids.len cap] 34)):=(Below.refl _ w).alloc (Nat.le_refl _) _
 have E0:(w.alloc (.cells #[.int .i64 e.k,.int .i64 e.n,stv e.nm,.slice ao e.kids.len cap] 34)).heap[w.heap.size]?=some (.cells #[.int .i64 e.k,.int .i64 e.n,stv e.nm,.slice ao e.kids.len cap] 34 (0,0)):=heap_alloc_new w _
 rw [exN_out]
 go_enter Tryz.func26,Tryz.ntmps26
 go_upto_region 1 with fail
 generalize w.alloc (.cells #[.int .i64 e.k,.int .i64 e.n,stv e.nm,.slice ao e.kids.len cap] 34)=w0 at *
 obtain ⟨bx,hbx⟩:∃ bx,bx=w.heap.size:=⟨_,rfl⟩
 rw [←hbx] at E0 B0 ⊢
 have HB:Hid (bx=w.heap.size):=hbx
 clear hbx
 obtain ⟨p0,p1,p2,p3,pf⟩:=box4 E0
 go_wp2
 go_loopw [3,4] (fun v3 v4 wr=>∃ (done r:Fs) (c:Nat),Hid (e.kids=done.app r)∧v3=.int .i64 (c:Nat)∧v4=.int .i64 (done.len:Nat)∧Hid (c=done.size+1)∧c≤1000000001∧wr.heap[bx]?=some (.cells #[.int .i64 e.k,.int .i64 e.n,stv e.nm,.slice ao e.kids.len cap] 34 (0,0))∧Below bx w wr) (fun _ v4 _=>e.kids.len - (intOf v4).toNat)
 case atStart=>exact ⟨.nil,e.kids,1,rfl,by show _=Value.int .i64 ((1:Nat):Int);rfl,by show _=Value.int .i64 ((0:Nat):Int);rfl,rfl,by omega,E0,B0⟩
 case round =>
  clear E0 B0 p0 p1 p2 p3 pf
  obtain ⟨done,r,c,hk,rfl,rfl,HC,hcb,E1,B1⟩:=hrel
  have hlk:e.kids.len=done.len+r.len:=by rw [hk.out,Fs.len_app]
  obtain ⟨p0,p1,p2,p3,pf⟩:=box4 E1
  cases r using Fs.on with
  | nil =>
   have hlt:¬ (done.len:Int) < (e.kids.len:Int):=by simp only [Fs.len] at hlk;omega
   have FIN:Hid ((e.kids.size:Int)+1=(c:Int)):=by show _=_;rw [HC.out,hk.out,app_nil' done];simp
   clear hlk hk HC
   go_wp2
   go_ret
   rw [FIN.out]
   exact ⟨rfl,by rw [←HB.out];exact B1⟩
  | cons kk kn km ka kks kr =>
   have hlt:(done.len:Int) < (e.kids.len:Int):=by simp only [Fs.len] at hlk;omega
   have hl3:done.len < e.kids.len:=by omega
   have hsz:e.kids.size=done.size+(kks.size+kr.size+1):=by rw [hk.out,Fs.size_app];rfl
   have hwk:(Fs.cons kk kn km ka kks kr).short:=Fs.app_short (x:=done) (by rw [←hk.out];exact hsh)
   obtain ⟨b,off,ak,ck,hao,lb1,-,x0,x1,x2,x3,SK⟩:=SlN.kidQ (by rw [←hk.out];exact SnA.below S (by rw [←HB.out];exact B1))
   subst hao
   have hk2:Hid (e.kids=(done.snoc ⟨kk,kn,km,ka,kks⟩).app kr):=by show e.kids=_;rw [hk.out];unfold Fs.snoc;rw [Fs.app_assoc];rfl
   have hl2:(done.len:Int)+1=((done.snoc ⟨kk,kn,km,ka,kks⟩).len:Nat):=by rw [Fs.len_snoc];rfl
   have hss:(done.snoc ⟨kk,kn,km,ka,kks⟩).size=done.size+(kks.size+1):=by unfold Fs.snoc;rw [Fs.size_app];rfl
   have hc:=IH ⟨kk,kn,km,ka,kks⟩ ak ck wr (by show kks.size < N;omega) hwk.2.1 hwk.2.2.1 (by show kks.size≤_;omega) SK
   rw [exN_out] at hc
   simp only at hc
   have HC2:Hid (c+(kks.size+1)=(done.snoc ⟨kk,kn,km,ka,kks⟩).size+1):=by show _=_;rw [hss,HC.out];omega
   have hcb2:c+(kks.size+1)≤1000000001:=by have:=HC.out;omega
   generalize kks.size+1=m at *
   have hw:IntKind.i64.wrap ((c:Int)+(m:Int))=((c+m:Nat):Int):=by rw [IntKind.wrap_i64];omega
   have hw2:(c:Int)+(m:Int)=((c+m:Nat):Int):=by omega
   generalize c+m=c2 at *
   clear hlk hk hsz hwk SK HC hss
   go_wp2_with fail
   refine hc.mono ?_
   rintro x w2 ⟨rfl,b2⟩
   have B2:=B1.trans (b2.mono (by have:=HB.out;have:=B1.size;omega))
   have E2:=(b2.block _ (lt_of_block E1)).trans E1
   clear hc b2 B1 E1 p0 p1 p2 p3 pf x0 x1 x2 x3
   go_wp2
   go_roundw
   case rel=>(try ((repeat apply Exists.intro);refine ⟨?_,rfl⟩));exact ⟨_,kr,c2,hk2,rfl,by rw [←hl2],HC2,hcb2,E2,B2⟩
   case measure=>simp [intOf];omega
theorem parts_ok:∀ N,PartsOk N -- 26
 | 0=>fun e ao cap w h=>absurd h (Nat.not_lt_zero _)
 | N+1=>parts_step (parts_ok N)
set_option maxRecDepth 100000 in
set_option maxHeartbeats 2000000 in
theorem psame_c (e:Ex) (ao ao2:Option Addr) (cap cap2:Nat) (cv cv2:Value) (xs:List Int) (w:World) (h1:InA w cv xs) (h2:InA w cv2 xs) (hl:xs.length≤100000) (hf:e.kids.len≤1000000000∧e.kids.short) (S:SnA w e.kids ao) (S2:SnA w e.kids ao2) :
  Calls Tryz.prog 28 #[plV e ao cap cv,plV e ao2 cap2 cv2] w fun x w'=>x=.returned (.bool true)∧Below w.heap.size w w':=by
 obtain ⟨ac,cc,hv1,hx1⟩:=h1
 have h1:InA w cv xs:=⟨ac,cc,hv1,hx1⟩
 subst hv1
 obtain ⟨ac2,cc2,hv2,hx2⟩:=h2
 have h2:InA w cv2 xs:=⟨ac2,cc2,hv2,hx2⟩
 subst hv2
 clear hx1 hx2
 obtain ⟨w0,hw0⟩:∃ w0,w0=(w.alloc (.cells #[.int .i64 e.k,.int .i64 e.n,stv e.nm,.slice ao e.kids.len cap,.slice ac xs.length cc] 37)).alloc (.cells #[.int .i64 e.k,.int .i64 e.n,stv e.nm,.slice ao2 e.kids.len cap2,.slice ac2 xs.length cc2] 37):=⟨_,rfl⟩
 have B0:Below w.heap.size w w0:=by rw [hw0];exact ((Below.refl _ w).alloc (Nat.le_refl _) _).alloc (by simp) _
 have E0:w0.heap[w.heap.size]?=some (.cells #[.int .i64 e.k,.int .i64 e.n,stv e.nm,.slice ao e.kids.len cap,.slice ac xs.length cc] 37 (0,0)):=by
  rw [hw0]
  exact (Below.heap_alloc _ _ _ (by simp)).trans (heap_alloc_new w _)
 have Y0:w0.heap[w.heap.size+1]?=some (.cells #[.int .i64 e.k,.int .i64 e.n,stv e.nm,.slice ao2 e.kids.len cap2,.slice ac2 xs.length cc2] 37 (0,0)):=by
  rw [hw0]
  have:=heap_alloc_new (w.alloc (.cells #[.int .i64 e.k,.int .i64 e.n,stv e.nm,.slice ao e.kids.len cap,.slice ac xs.length cc] 37)) (.cells #[.int .i64 e.k,.int .i64 e.n,stv e.nm,.slice ao2 e.kids.len cap2,.slice ac2 xs.length cc2] 37)
  simpa using this
 have S0:=SnA.below S B0
 have T0:=SnA.below S2 B0
 have I0:=h1.below B0
 have J0:=h2.below B0
 rw [plV_out,plV_out]
 go_enter Tryz.func28,Tryz.ntmps28
 go_upto_region 1 with fail
 rw [←hw0]
 clear hw0
 obtain ⟨bx,hbx⟩:∃ bx,bx=w.heap.size:=⟨_,rfl⟩
 rw [←hbx] at E0 Y0 B0
 try rw [←hbx]
 have HB:Hid (bx=w.heap.size):=hbx
 clear hbx S S2 h1 h2
 obtain ⟨p0,p1,p2,p3,p4,pf⟩:=box5 E0
 obtain ⟨q0,q1,q2,q3,q4,qf⟩:=box5 Y0
 have c1:=samq_ok (e.kids.size+1) e e ao ao2 cap cap2 w0 (by omega) hf.1 hf.2 hf.1 hf.2 S0 T0
 rw [sameE_self,exN_out,exN_out] at c1
 go_wp2_with fail
 refine c1.mono ?_
 rintro x w1 ⟨rfl,b1⟩
 have E1:=(b1.block _ (lt_of_block E0)).trans E0
 have Y1:=(b1.block _ (lt_of_block Y0)).trans Y0
 have I1:=I0.below b1
 have J1:=J0.below b1
 have B1:Below bx w w1:=B0.trans (b1.mono (by have:=lt_of_block E0;omega))
 clear c1 b1 E0 Y0 S0 T0 I0 J0 B0 p0 p1 p2 p3 p4 pf q0 q1 q2 q3 q4 qf
 obtain ⟨p0,p1,p2,p3,p4,pf⟩:=box5 E1
 obtain ⟨q0,q1,q2,q3,q4,qf⟩:=box5 Y1
 have c2:=eqints_c w1 _ _ xs xs I1 J1 (by omega)
 go_wp2_with fail
 refine c2.mono ?_
 rintro x w2 ⟨rfl,b2⟩
 have B2:Below bx w w2:=B1.trans (b2.mono (by have:=lt_of_block E1;omega))
 simp only [decide_true]
 go_wp2
 go_ret
 exact ⟨rfl,by rw [←HB.out];exact B2⟩
def StandsOk (N:Nat):Prop:=∀ (e:Ex) (ao:Option Addr) (cap:Nat) (ar:Int) (w:World),e.kids.size < N→e.kids.len≤1000000000→e.kids.short→e.nv→0≤ar→ar+e.kids.size≤1000000000→SnA w e.kids ao→stnE e ar=true →
 Calls Tryz.prog 27 #[exN e ao cap,.int .i64 ar] w fun x w'=>x=.returned (.bool true)∧Below w.heap.size w w'
set_option maxRecDepth 100000 in
set_option maxHeartbeats 2000000 in
theorem stands_step {N:Nat} (IH:StandsOk N):StandsOk (N+1):=by
 intro e ao cap ar w hN hlen hsh hnv h0 h1 S hst
 have B0:Below w.heap.size w (w.alloc (.cells #[.int .i64 e.k,.int .i64 e.n,stv e.nm,.slice ao e.kids.len cap] 34)):=(Below.refl _ w).alloc (Nat.le_refl _) _
 have E0:(w.alloc (.cells #[.int .i64 e.k,.int .i64 e.n,stv e.nm,.slice ao e.kids.len cap] 34)).heap[w.heap.size]?=some (.cells #[.int .i64 e.k,.int .i64 e.n,stv e.nm,.slice ao e.kids.len cap] 34 (0,0)):=heap_alloc_new w _
 rw [exN_out]
 go_enter Tryz.func27,Tryz.ntmps27
 go_upto_region 1 with fail
 generalize w.alloc (.cells #[.int .i64 e.k,.int .i64 e.n,stv e.nm,.slice ao e.kids.len cap] 34)=w0 at *
 obtain ⟨bx,hbx⟩:∃ bx,bx=w.heap.size:=⟨_,rfl⟩
 rw [←hbx] at E0 B0 ⊢
 have HB:Hid (bx=w.heap.size):=hbx
 clear hbx
 obtain ⟨p0,p1,p2,p3,pf⟩:=box4 E0
 by_cases h26:e.k=26
 ·have hb:(e.k == 26)=true:=by simpa using h26
  clear hst h26
  go_wp2
  go_ret
  exact ⟨rfl,by rw [←HB.out];exact B0⟩
 have hb:(e.k == 26)=false:=by simpa using h26
 unfold stnE at hst
 rw [if_neg h26] at hst
 by_cases hc:(0 < ar∧(e.k=20∨e.k=21))∧hgE e ar < ar
 ·rw [if_pos hc] at hst;cases hst
 rw [if_neg hc] at hst
 have HST:Hid (stnF e.kids e.k 0 ar=true):=hst
 clear hst h26
 have c0:=hangd_ok (e.kids.size+1) e ao cap ar w0 (by omega) hlen hsh hnv h0 (by omega) (SnA.below S (by rw [←HB.out];exact B0))
 rw [exN_out] at c0
 have hlt0:0 < ar∧(e.k=20∨e.k=21)→¬ hgE e ar < ar:=fun h1 h2=>hc ⟨h1,h2⟩
 generalize hgE e ar=hg at *
 have hcase:¬ 0 < ar∨(0 < ar∧(e.k == 20)=false∧(e.k == 21)=false)∨(0 < ar∧(e.k == 20)=true∧¬ hg < ar)∨(0 < ar∧(e.k == 20)=false∧(e.k == 21)=true∧¬ hg < ar):=by
  by_cases ha:0 < ar
  ·by_cases h20:e.k=20
   ·exact .inr (.inr (.inl ⟨ha,by simpa using h20,hlt0 ⟨ha,.inl h20⟩⟩))
   ·by_cases h21:e.k=21
    ·exact .inr (.inr (.inr ⟨ha,by simpa using h20,by simpa using h21,hlt0 ⟨ha,.inr h21⟩⟩))
    ·exact .inr (.inl ⟨ha,by simpa using h20,by simpa using h21⟩)
  ·exact .inl ha
 clear hc hlt0
 rcases hcase with ha | ⟨ha,hb20,hb21⟩ | ⟨ha,hb20,hg1⟩ | ⟨ha,hb20,hb21,hg1⟩
 focus
  clear c0
  go_upto_region 5 with fail
 rotate_left
 focus
  clear c0
  go_upto_region 5 with fail
 rotate_left
 focus
  go_wp2_with fail
  refine c0.mono ?_
  rintro x w1 ⟨rfl,b1⟩
  have E1:=(b1.block _ (lt_of_block E0)).trans E0
  have B1:=B0.trans (b1.mono (by have:=lt_of_block E0;omega))
  clear c0 b1 E0 B0 p0 p1 p2 p3 pf
  go_upto_region 5 with fail
  have E0:=E1
  have B0:=B1
  clear E1 B1
  obtain ⟨p0,p1,p2,p3,pf⟩:=box4 E0
 rotate_left
 focus
  go_wp2_with fail
  refine c0.mono ?_
  rintro x w1 ⟨rfl,b1⟩
  have E1:=(b1.block _ (lt_of_block E0)).trans E0
  have B1:=B0.trans (b1.mono (by have:=lt_of_block E0;omega))
  clear c0 b1 E0 B0 p0 p1 p2 p3 pf
  go_upto_region 5 with fail
  have E0:=E1
  have B0:=B1
  clear E1 B1
  obtain ⟨p0,p1,p2,p3,pf⟩:=box4 E0
 all_goals (
  try clear hb20
  try clear hb21
  try clear hg1
  clear ha
  go_wp2
  go_loopw [5] (fun v5 wr=>∃ (done r:Fs),Hid (e.kids=done.app r)∧v5=.int .i64 (done.len:Nat)∧Hid (stnF r e.k done.len ar=true)∧wr.heap[bx]?=some (.cells #[.int .i64 e.k,.int .i64 e.n,stv e.nm,.slice ao e.kids.len cap] 34 (0,0))∧Below bx w wr) (fun v5 _=>e.kids.len - (intOf v5).toNat)
  case atStart=>exact ⟨.nil,e.kids,rfl,by show _=Value.int .i64 ((0:Nat):Int);rfl,HST.out,E0,B0⟩
  case round =>
   clear E0 B0 p0 p1 p2 p3 pf HST
   obtain ⟨done,r,hk,rfl,HS,E1,B1⟩:=hrel
   have hlk:e.kids.len=done.len+r.len:=by rw [hk.out,Fs.len_app]
   obtain ⟨p0,p1,p2,p3,pf⟩:=box4 E1
   cases r using Fs.on with
   | nil =>
    have hlt:¬ (done.len:Int) < (e.kids.len:Int):=by simp only [Fs.len] at hlk;omega
    clear hlk
    go_wp2
    go_ret
    exact ⟨rfl,by rw [←HB.out];exact B1⟩
   | cons kk kn km ka kks kr =>
    have hlt:(done.len:Int) < (e.kids.len:Int):=by simp only [Fs.len] at hlk;omega
    have hl3:done.len < e.kids.len:=by omega
    have hsz:e.kids.size=done.size+(kks.size+kr.size+1):=by rw [hk.out,Fs.size_app];rfl
    have hwk:(Fs.cons kk kn km ka kks kr).short:=Fs.app_short (x:=done) (by rw [←hk.out];exact hsh)
    obtain ⟨b,off,ak,ck,hao,lb1,-,x0,x1,x2,x3,SK⟩:=SlN.kidQ (by rw [←hk.out];exact SnA.below S (by rw [←HB.out];exact B1))
    subst hao
    have hk2:Hid (e.kids=(done.snoc ⟨kk,kn,km,ka,kks⟩).app kr):=by show e.kids=_;rw [hk.out];unfold Fs.snoc;rw [Fs.app_assoc];rfl
    have hl2:(done.len:Int)+1=((done.snoc ⟨kk,kn,km,ka,kks⟩).len:Nat):=by rw [Fs.len_snoc];rfl
    have hss:(done.snoc ⟨kk,kn,km,ka,kks⟩).size=done.size+(kks.size+1):=by unfold Fs.snoc;rw [Fs.size_app];rfl
    have hnk:(Fs.cons kk kn km ka kks kr).nv:=(Fs.app_nv (x:=done) (by rw [←hk.out];exact hnv.2)).2
    have HS2:Hid (stnE ⟨kk,kn,km,ka,kks⟩ (if e.k=21∧done.len=1 then ar+1 else ar)=true∧stnF kr e.k (done.snoc ⟨kk,kn,km,ka,kks⟩).len ar=true):=by
     have h:=HS.out
     rw [stn_cons,Bool.and_eq_true] at h
     rw [Fs.len_snoc]
     exact h
    have hap:(e.k=21∧done.len=1∧(e.k == 21)=true∧((done.len:Int) == 1)=true)∨(¬ (e.k=21∧done.len=1)∧((e.k == 21)=false∨((e.k == 21)=true∧((done.len:Int) == 1)=false))):=by
     by_cases hA:e.k=21∧done.len=1
     ·exact .inl ⟨hA.1,hA.2,by simpa using hA.1,by simp;omega⟩
     ·refine .inr ⟨hA,?_⟩
      rcases Classical.em (e.k=21) with h21 | h21
      ·exact .inr ⟨by simpa using h21,by have h3:done.len≠1:=fun h=>hA ⟨h21,h⟩;simp;omega⟩
      ·exact .inl (by simpa using h21)
    rcases hap with ⟨hA1,hA2,hk21,hd1⟩ | ⟨hA,hk21 | ⟨hk21,hd1⟩⟩
    focus
     have hc:=IH ⟨kk,kn,km,ka,kks⟩ ak ck (ar+1) wr (by show kks.size < N;omega) hwk.2.1 hwk.2.2.1 ⟨hnk.1,hnk.2.1⟩ (by omega) (by show _+(kks.size:Int)≤_;omega) SK (by have:=HS2.out.1;rw [if_pos ⟨hA1,hA2⟩] at this;exact this)
     rw [exN_out] at hc
     simp only at hc
     clear hA1 hA2
    rotate_left
    focus
     have hc:=IH ⟨kk,kn,km,ka,kks⟩ ak ck ar wr (by show kks.size < N;omega) hwk.2.1 hwk.2.2.1 ⟨hnk.1,hnk.2.1⟩ (by omega) (by show _+(kks.size:Int)≤_;omega) SK (by have:=HS2.out.1;rw [if_neg hA] at this;exact this)
     rw [exN_out] at hc
     simp only at hc
     clear hA
    rotate_left
    focus
     have hc:=IH ⟨kk,kn,km,ka,kks⟩ ak ck ar wr (by show kks.size < N;omega) hwk.2.1 hwk.2.2.1 ⟨hnk.1,hnk.2.1⟩ (by omega) (by show _+(kks.size:Int)≤_;omega) SK (by have:=HS2.out.1;rw [if_neg hA] at this;exact this)
     rw [exN_out] at hc
     simp only at hc
     clear hA
    all_goals (
     have hrn:ar+1≤1000000001:=by omega
     clear hlk hk hsz hwk SK HS hss hnk
     go_wp2_with fail
     refine hc.mono ?_
     rintro x w2 ⟨rfl,b2⟩
     have B2:=B1.trans (b2.mono (by have:=HB.out;have:=B1.size;omega))
     have E2:=(b2.block _ (lt_of_block E1)).trans E1
     have HS3:Hid (stnF kr e.k (done.snoc ⟨kk,kn,km,ka,kks⟩).len ar=true):=HS2.out.2
     clear hc b2 B1 E1 p0 p1 p2 p3 pf x0 x1 x2 x3 HS2
     go_wp2
     go_roundw
     case rel=>(try ((repeat apply Exists.intro);refine ⟨?_,rfl⟩));exact ⟨_,kr,hk2,by rw [←hl2],HS3,E2,B2⟩
     case measure=>simp [intOf];omega))
theorem stands_ok:∀ N,StandsOk N -- 27
 | 0=>fun e ao cap ar w h=>absurd h (Nat.not_lt_zero _)
 | N+1=>stands_step (stands_ok N)
def hvP (e:Ex) (cells:List Int):Bool:=decide (20000 < cells.length) || decide (wgF e.kids (20000 - 1) < 0)
set_option maxRecDepth 100000 in
set_option maxHeartbeats 1000000 in
theorem heavy14_c (e:Ex) (ao:Option Addr) (cap ac0:Nat) (cv:Value) (cells:List Int) (w:World) (hc:InA w cv cells) (hcl:cells.length≤maxLen) (hlen:e.kids.len≤maxLen) (hwd:e.kids.wide) (S:SnA w e.kids ao) :
  Calls Tryz.prog 14 #[plV e ao cap cv] w fun x w'=>x=.returned (.bool (hvP e cells))∧Below w.heap.size w w':=by
 obtain ⟨W,hW⟩:∃ W,W=hvP e cells:=⟨_,rfl⟩
 rw [←hW]
 have HW:Hid (W=hvP e cells):=hW
 clear hW
 obtain ⟨ac,cc,hcv,hcx⟩:=hc
 subst hcv
 clear hcx
 have hml:Hid (maxLen=9223372036854775807):=rfl
 have hcm:cells.length≤9223372036854775807:=by have:=hml.out;omega
 have B0:Below w.heap.size w (w.alloc (.cells #[.int .i64 e.k,.int .i64 e.n,stv e.nm,.slice ao e.kids.len cap,.slice ac cells.length cc] 37)):=(Below.refl _ w).alloc (Nat.le_refl _) _
 have E0:(w.alloc (.cells #[.int .i64 e.k,.int .i64 e.n,stv e.nm,.slice ao e.kids.len cap,.slice ac cells.length cc] 37)).heap[w.heap.size]?=some (.cells #[.int .i64 e.k,.int .i64 e.n,stv e.nm,.slice ao e.kids.len cap,.slice ac cells.length cc] 37):=heap_alloc_new w _
 have S0:=SnA.below S B0
 rw [plV_out]
 go_enter Tryz.func14,Tryz.ntmps14
 go_upto_region 1 with fail
 generalize w.alloc (.cells #[.int .i64 e.k,.int .i64 e.n,stv e.nm,.slice ao e.kids.len cap,.slice ac cells.length cc] 37)=w0 at *
 obtain ⟨p0,p1,p2,p3,p4,pf⟩:=box5 E0
 by_cases h2:20000 < cells.length
 ·have hI:(20000:Int) < (cells.length:Int):=by omega
  have HZ:Hid (W=true):=by show W=_;rw [HW.out];simp [hvP,h2]
  clear HW h2
  go_wp2
  go_ret
  rw [HZ.out]
  exact ⟨rfl,B0⟩
 ·have hI:¬ (20000:Int) < (cells.length:Int):=by omega
  have HZ:Hid (W=decide (wgF e.kids (20000 - 1) < 0)):=by show W=_;rw [HW.out];simp [hvP,h2]
  have c1:=weighn_ok (e.kids.size+1) e ao cap 20000 w0 (by omega) hlen hwd (by omega) (by omega) S0
  rw [exN_out] at c1
  generalize wgF e.kids (20000 - 1)=g at *
  clear HW h2
  go_wp2_with fail
  refine c1.mono ?_
  rintro z w1 ⟨rfl,b1⟩
  have B1:Below w.heap.size w w1:=B0.trans (b1.mono B0.size)
  clear c1 p0 p1 p2 p3 p4 pf E0
  go_wp2
  go_ret
  rw [HZ.out]
  exact ⟨rfl,B1⟩
theorem hvP_not {e:Ex} {cells:List Int} (h:hvP e cells=false):cells.length≤20000∧e.kids.size≤20000:=by
 unfold hvP at h
 simp only [Bool.or_eq_false_iff,decide_eq_false_iff_not] at h
 have h1:=wgF_size e.kids (20000 - 1) (by omega)
 omega
set_option maxRecDepth 100000 in
set_option maxHeartbeats 8000000 in
theorem hoistLeaves_walk (e:Ex) (ao:Option Addr) (cap:Nat) (cv:Value) (cells:List Int) (w:World) (hlen:e.kids.len≤maxLen) (hwd:e.kids.wide) (hfit:e.kids.size≤100000000→FitN e) (S:SnA w e.kids ao) (hc:InA w cv cells) (hcl:cells.length≤maxLen) (hW:Wd w) :
  Calls Tryz.prog 8 #[plV e ao cap cv] w fun x w'=>x=.returned (.bool true)∧Below w.heap.size w w':=by
 obtain ⟨ac,cc,hcv,hx⟩:=hc
 have hc:InA w cv cells:=⟨ac,cc,hcv,hx⟩
 subst hcv
 clear hx
 have B0:Below w.heap.size w (w.alloc (.cells #[.int .i64 e.k,.int .i64 e.n,stv e.nm,.slice ao e.kids.len cap,.slice ac cells.length cc] 37)):=(Below.refl _ w).alloc (Nat.le_refl _) _
 have P0:(w.alloc (.cells #[.int .i64 e.k,.int .i64 e.n,stv e.nm,.slice ao e.kids.len cap,.slice ac cells.length cc] 37)).heap[w.heap.size]?=some (.cells #[.int .i64 e.k,.int .i64 e.n,stv e.nm,.slice ao e.kids.len cap,.slice ac cells.length cc] 37 (0,0)):=heap_alloc_new w _
 have S0:=SnA.below S B0
 have I0:=hc.below B0
 have W0:=hW.below B0
 rw [plV_out]
 go_enter Tryz.func8,Tryz.ntmps8
 go_upto_region 1 with fail
 generalize w.alloc (.cells #[.int .i64 e.k,.int .i64 e.n,stv e.nm,.slice ao e.kids.len cap,.slice ac cells.length cc] 37)=w0 at *
 obtain ⟨n0,hn0⟩:∃ n0,n0=w.heap.size:=⟨_,rfl⟩
 rw [←hn0] at P0 B0
 try rw [←hn0]
 have HB:Hid (n0=w.heap.size):=hn0
 clear hn0 hc hW S
 have c1:=heavy14_c e ao cap 0 _ cells w0 I0 hcl hlen hwd S0
 rw [plV_out] at c1
 obtain ⟨p0,p1,p2,p3,p4,pf⟩:=box5 P0
 go_wp2_with fail
 refine c1.mono ?_
 rintro x w1 ⟨rfl,b1⟩
 have P1:=(b1.block _ (lt_of_block P0)).trans P0
 have S1:=SnA.below S0 b1
 have I1:=I0.below b1
 have W1:=W0.below b1
 have B1:Below n0 w w1:=B0.trans (b1.mono (by have:=lt_of_block P0;omega))
 clear c1 b1 P0 S0 I0 W0 B0 p0 p1 p2 p3 p4 pf
 cases hh:hvP e cells with
 | true =>
  clear hh
  go_wp2
  go_ret
  exact ⟨rfl,by rw [←HB.out];exact B1⟩
 | false =>
 obtain ⟨hcl2,hsz⟩:=hvP_not hh
 have hf:=hfit (by omega)
 clear hh hfit hcl hlen hwd
 have c2:=awakeh_r w1 W1
 go_wp2_with fail
 refine c2.mono ?_
 rintro x w2 ⟨rfl,b2⟩
 have P2:=(b2.block _ (lt_of_block P1)).trans P1
 have S2:=SnA.below S1 b2
 have I2:=I1.below b2
 have W2:=W1.below b2
 have B2:Below n0 w w2:=B1.trans (b2.mono (by have:=lt_of_block P1;omega))
 clear c2 b2 P1 S1 I1 W1 B1
 obtain ⟨p0,p1,p2,p3,p4,pf⟩:=box5 P2
 have c3:=hoist_c e ao cap _ cells w2 hf (by omega) W2 I2 (by omega) S2
 rw [plV_out] at c3
 by_cases hk:kindP cells e=0
 ·go_wp2_with fail
  refine c3.mono ?_
  intro x w3 h3
  unfold PostHs at h3
  rw [if_pos hk] at h3
  obtain ⟨rfl,b3⟩:=h3
  have B3:Below n0 w w3:=B2.trans (b3.mono (by have:=lt_of_block P2;omega))
  have Z4:(w3.alloc (.cells #[.int .i64 0,.int .i64 0,.string ⟨#[]⟩,.slice none 0 0,.slice none 0 0] 37)).heap[w3.heap.size]?=some (.cells #[.int .i64 0,.int .i64 0,.string ⟨#[]⟩,.slice none 0 0,.slice none 0 0] 37 (0,0)):=heap_alloc_new w3 _
  have hn3:n0≤w3.heap.size:=by have:=lt_of_block P2;have:=b3.size;omega
  have B4:Below n0 w (w3.alloc (.cells #[.int .i64 0,.int .i64 0,.string ⟨#[]⟩,.slice none 0 0,.slice none 0 0] 37)):=B3.alloc hn3 _
  clear c3 b3 p0 p1 p2 p3 p4 pf P2 S2 I2 W2 B2 B3 hk
  go_upto_region 5 with fail
  generalize w3.alloc (.cells #[.int .i64 0,.int .i64 0,.string ⟨#[]⟩,.slice none 0 0,.slice none 0 0] 37)=w4 at *
  generalize w3.heap.size=nq at *
  obtain ⟨z0,z1,z2,z3,z4,zf⟩:=box5 Z4
  go_wp2
  go_ret
  exact ⟨rfl,by rw [←HB.out];exact B4⟩
 go_wp2_with fail
 refine c3.mono ?_
 intro x w3 h3
 have h3:=h3.ok hk
 have HKH:Hid (e.kids.size+1≤2048→kindP (hstE e 0 0 cells).2 (hstE e 0 0 cells).1≠0∧(hstE e 0 0 cells).1.kids.size+1≤4096):=fun h=>kindP_hst hk h
 have hfY:=hstE_fit 0 0 cells hf
 have hC1:=(hstE_pre e 0 0 cells).length_le
 have hC2:=hstE_len256 e 0 0 cells (kindP_inv hk).1
 have HST:Hid ((hstE e 0 0 cells).2.length < 256→stnE (hstE e 0 0 cells).1 0=true):=fun h=>stnE_hst e cells h
 clear c3
 generalize hstE e 0 0 cells=yy at *
 obtain ⟨Y,C⟩:=yy
 simp only at h3 HKH hfY hC1 hC2 HST
 obtain ⟨g,aq,cq,vq,rfl,S3q,own3,-,b3⟩:=h3
 obtain ⟨acq,ccq,hvq⟩:∃ acq ccq,vq=.slice acq C.length ccq:=Row.form (w:=w3) (o:=fun _=>0) (i:=0) ⟨own3,fun _ _=>rfl⟩
 subst hvq
 have I3q:InA w3 (.slice acq C.length ccq) C:=InA.ofRow (o:=fun _=>0) (i:=0) ⟨own3,fun _ _=>rfl⟩
 have P3:=(b3.block _ (lt_of_block P2)).trans P2
 have S3:=SnA.below S2 b3
 have W3:=W2.below b3
 have B3:Below n0 w w3:=B2.trans (b3.mono (by have:=lt_of_block P2;omega))
 have b4:Below w3.heap.size w3 (w3.alloc (.cells #[.int .i64 Y.k,.int .i64 Y.n,stv Y.nm,.slice aq Y.kids.len cq,.slice acq C.length ccq] 37)):=(Below.refl _ w3).alloc (Nat.le_refl _) _
 have Q4:(w3.alloc (.cells #[.int .i64 Y.k,.int .i64 Y.n,stv Y.nm,.slice aq Y.kids.len cq,.slice acq C.length ccq] 37)).heap[w3.heap.size]?=some (.cells #[.int .i64 Y.k,.int .i64 Y.n,stv Y.nm,.slice aq Y.kids.len cq,.slice acq C.length ccq] 37 (0,0)):=heap_alloc_new w3 _
 have P4:=(b4.block _ (lt_of_block P3)).trans P3
 have S4:=SnA.below S3 b4
 have W4:=W3.below b4
 have S4q:=SnA.below S3q.sl.all b4
 have I4q:=I3q.below b4
 have B4:Below n0 w (w3.alloc (.cells #[.int .i64 Y.k,.int .i64 Y.n,stv Y.nm,.slice aq Y.kids.len cq,.slice acq C.length ccq] 37)):=B3.trans (b4.mono (by have:=lt_of_block P3;omega))
 have HQ3:Hid (n0≤w3.heap.size):=by show _≤_;have:=lt_of_block P3;omega
 clear b3 b4 P2 S2 I2 W2 B2 P3 S3 W3 B3 S3q I3q own3 p0 p1 p2 p3 p4 pf hk
 rw [plV_out]
 go_upto_region 5 with fail
 generalize w3.alloc (.cells #[.int .i64 Y.k,.int .i64 Y.n,stv Y.nm,.slice aq Y.kids.len cq,.slice acq C.length ccq] 37)=w4 at *
 have HQN:Hid (n0≤w3.heap.size):=HQ3.out
 generalize w3.heap.size=nq at *
 obtain ⟨p0,p1,p2,p3,p4,pf⟩:=box5 P4
 obtain ⟨q0,q1,q2,q3,q4,qf⟩:=box5 Q4
 have hl1:¬ (C.length:Int) < (cells.length:Int):=by omega
 have hl2:¬ (256:Int) < (C.length:Int):=by omega
 go_upto_region 9 with fail
 by_cases h256:C.length=256
 ·have hb:((C.length:Int) == 256)=true:=by simp [h256]
  clear h256 hl1 hl2 hC1 hC2
  go_wp2
  go_ret
  exact ⟨rfl,by rw [←HB.out];exact B4⟩
 have hb:((C.length:Int) == 256)=false:=by simp;omega
 have c5:=parts_ok (e.kids.size+1) e ao cap w4 (by omega) hf.len hf.sh (by omega) S4
 rw [exN_out] at c5
 go_wp2_with fail
 refine c5.mono ?_
 rintro x w5 ⟨rfl,b5⟩
 have Q5:=(b5.block _ (lt_of_block Q4)).trans Q4
 have W5:=W4.below b5
 have S5q:=SnA.below S4q b5
 have I5q:=I4q.below b5
 have B5:Below n0 w w5:=B4.trans (b5.mono (by have:=lt_of_block P4;omega))
 clear c5 b5 P4 Q4 S4 W4 S4q I4q B4 p0 p1 p2 p3 p4 pf q0 q1 q2 q3 q4 qf hl1 hl2
 by_cases hpt:2048 < e.kids.size+1
 ·have hpI:(2048:Int) < ((e.kids.size+1:Nat):Int):=by omega
  generalize e.kids.size+1=ps at *
  clear hpt
  go_wp2
  go_ret
  exact ⟨rfl,by rw [←HB.out];exact B5⟩
 have hpI:¬ (2048:Int) < ((e.kids.size+1:Nat):Int):=by omega
 obtain ⟨hkq,hsq⟩:=HKH.out (by omega)
 have hst:=HST.out (by omega)
 have hid:=hstE_idem C hst
 obtain ⟨-,-,sY,hrgY,-⟩:=kindP_inv hkq
 have hnvY:=rgE_nv hrgY
 generalize e.kids.size+1=ps at *
 clear HKH HST hpt hrgY
 obtain ⟨q0,q1,q2,q3,q4,qf⟩:=box5 Q5
 have c6:=stands_ok (Y.kids.size+1) Y aq cq 0 w5 (by omega) hfY.len hfY.sh hnvY (by omega) (by omega) S5q hst
 rw [exN_out] at c6
 go_wp2_with fail
 refine c6.mono ?_
 rintro x w6 ⟨rfl,b6⟩
 have Q6:=(b6.block _ (lt_of_block Q5)).trans Q5
 have W6:=W5.below b6
 have S6q:=SnA.below S5q b6
 have I6q:=I5q.below b6
 have B6:Below n0 w w6:=B5.trans (b6.mono (by have:=lt_of_block Q5;have:=HQN.out;omega))
 clear c6 b6 Q5 W5 S5q I5q B5 q0 q1 q2 q3 q4 qf hnvY hst hpI
 obtain ⟨q0,q1,q2,q3,q4,qf⟩:=box5 Q6
 have c7:=hoist_c Y aq cq _ C w6 hfY (by omega) W6 I6q (by omega) S6q
 rw [plV_out] at c7
 go_wp2_with fail
 refine c7.mono ?_
 intro x w7 h7
 have h7:=h7.ok hkq
 rw [hid] at h7
 simp only at h7
 obtain ⟨g2,ar,cr,vr,rfl,S7r,own7,-,b7⟩:=h7
 obtain ⟨acr,ccr,hvr⟩:∃ acr ccr,vr=.slice acr C.length ccr:=Row.form (w:=w7) (o:=fun _=>0) (i:=0) ⟨own7,fun _ _=>rfl⟩
 subst hvr
 have I7r:InA w7 (.slice acr C.length ccr) C:=InA.ofRow (o:=fun _=>0) (i:=0) ⟨own7,fun _ _=>rfl⟩
 have Q7:=(b7.block _ (lt_of_block Q6)).trans Q6
 have S7q:=SnA.below S6q b7
 have I7q:=I6q.below b7
 have B7:Below n0 w w7:=B6.trans (b7.mono (by have:=lt_of_block Q6;have:=HQN.out;omega))
 have b8:Below w7.heap.size w7 (w7.alloc (.cells #[.int .i64 Y.k,.int .i64 Y.n,stv Y.nm,.slice ar Y.kids.len cr,.slice acr C.length ccr] 37)):=(Below.refl _ w7).alloc (Nat.le_refl _) _
 have R8:(w7.alloc (.cells #[.int .i64 Y.k,.int .i64 Y.n,stv Y.nm,.slice ar Y.kids.len cr,.slice acr C.length ccr] 37)).heap[w7.heap.size]?=some (.cells #[.int .i64 Y.k,.int .i64 Y.n,stv Y.nm,.slice ar Y.kids.len cr,.slice acr C.length ccr] 37 (0,0)):=heap_alloc_new w7 _
 have Q8:=(b8.block _ (lt_of_block Q7)).trans Q7
 have S8q:=SnA.below S7q b8
 have I8q:=I7q.below b8
 have S8r:=SnA.below S7r.sl.all b8
 have I8r:=I7r.below b8
 have B8:Below n0 w (w7.alloc (.cells #[.int .i64 Y.k,.int .i64 Y.n,stv Y.nm,.slice ar Y.kids.len cr,.slice acr C.length ccr] 37)):=B7.trans (b8.mono (by have:=lt_of_block Q7;have:=HQN.out;omega))
 clear c7 b7 b8 Q6 W6 S6q I6q B6 Q7 S7q I7q B7 S7r I7r own7 q0 q1 q2 q3 q4 qf hid hkq
 rw [plV_out]
 go_upto_region 13 with fail
 generalize w7.alloc (.cells #[.int .i64 Y.k,.int .i64 Y.n,stv Y.nm,.slice ar Y.kids.len cr,.slice acr C.length ccr] 37)=w8 at *
 generalize w7.heap.size=nr at *
 obtain ⟨q0,q1,q2,q3,q4,qf⟩:=box5 Q8
 obtain ⟨r0,r1,r2,r3,r4,rf⟩:=box5 R8
 have c9:=psame_c Y aq ar cq cr _ _ C w8 I8q I8r (by omega) ⟨hfY.len,hfY.sh⟩ S8q S8r
 rw [plV_out,plV_out] at c9
 go_wp2_with fail
 refine c9.mono ?_
 rintro x w9 ⟨rfl,b9⟩
 have B9:Below n0 w w9:=B8.trans (b9.mono (by have:=lt_of_block Q8;have:=HQN.out;omega))
 clear c9 b9 q0 q1 q2 q3 q4 qf r0 r1 r2 r3 r4 rf Q8 R8 S8q I8q S8r I8r B8
 go_wp2
 go_ret
 exact ⟨rfl,by rw [←HB.out];exact B9⟩
end Go.Proofs.YtaihhnlfcndecaaGreatDoor
namespace Go.Proofs.YtaihhnlfcndecaaGreatDoor
open Go.ChangeShapes Go.WideShapes Go.ChangeAt Go.RowKit
set_option linter.unusedVariables false
theorem ownK:ownKnob Tryz.prog.godebug=none:=by kernel_rfl
theorem laidOut:laidOutB Tryz.prog=true:=by kernel_rfl
theorem cellsInt:Tryz.prog.cellsOf 3=1:=by kernel_rfl
theorem bd_i64 {a:Int} (h:(Lit.int .i64 a).wf=true):-9223372036854775808≤a∧a≤9223372036854775807:=by
 simpa [Lit.wf,IntKind.min,IntKind.max,IntKind.signed,IntKind.bits] using h
theorem gWd : Tryz.prog.globalNamed "isthmus/lex.words" = some 1 := by kernel_rfl
theorem gWdType:(Tryz.prog.globals[1]?).map (·.type)=some 194:=by kernel_rfl
theorem cellsWd:Tryz.prog.cellsOf 194=27:=by kernel_rfl
theorem cellsStr:Tryz.prog.cellsOf 9=1:=by kernel_rfl
def wordsD:List (DataW Unit):=(List.range 27).map fun j=>.lit (.string (wd j).data.toList)
theorem wordsD_eq:(Rows.laid_isthmus_lex_words:DataW Unit)=.agg wordsD:=by rfl
theorem wordsA_list:wordsA.toList=(List.range 27).map fun j=>Value.string (wd j):=by rfl
theorem words_of_cells {W:World} {fuel:Nat} {cs:List Value} {p:List MemPlace} (h:DataW.trod (fun _=>()) Tryz.prog W 0 (fun _=>true) false fuel 194 cs=some (.agg wordsD,p)):cs=wordsA.toList:=by
 obtain ⟨xs,m,_,hx,hl,hlen,hf⟩:=DataW.trod_array Tryz.underlying194 h
 rw [cellsWd] at hl
 simp only [cellsStr,Nat.mul_one] at hf
 simp only [Prod.mk.injEq,DataW.agg.injEq] at hx
 rw [wordsA_list]
 apply List.ext_getElem?
 intro i
 by_cases hi:i < 27
 ·have hfi:=hf i hi
  have hxi:xs[i]?=some xs[i]:=List.getElem?_eq_getElem (by omega)
  rw [hxi] at hfi
  obtain ⟨s,h1,h2⟩:=DataW.trod_string Tryz.underlying9 hfi
  have hc:cs[i]?=some (.string s):=by
   have:=congrArg (·[0]?) h1
   simpa [List.getElem?_take,List.getElem?_drop] using this
  have hd:(xs.map (·.1))[i]?=some (.lit (.string s.data.toList)):=by rw [List.getElem?_map,hxi,h2.1];rfl
  rw [←hx.1] at hd
  unfold wordsD at hd
  rw [List.getElem?_map,List.getElem?_range hi] at hd
  simp only [Option.map_some,Option.some.injEq,DataW.lit.injEq,Lit.string.injEq] at hd
  have hs:=bytes_eq.1 hd
  rw [hc,List.getElem?_map,List.getElem?_range hi,←hs]
  rfl
 ·rw [List.getElem?_eq_none (by omega),List.getElem?_eq_none (by simp;omega)]
theorem wd_of_laid {W : World} {r : List (String × DataW Unit)} (h : laidMet Tryz.prog (("isthmus/lex.words", Rows.laid_isthmus_lex_words) :: r) W) : Wd W := by
 rw [wordsD_eq] at h
 obtain ⟨ps,⟨g',t',cs,fuel,p,q,hg',ht',hvar,hd,_,_⟩,_⟩:=h
 obtain rfl:=Option.some.inj (gWd.symm.trans hg')
 obtain rfl:=Option.some.inj (gWdType.symm.trans ht')
 have hcs:=words_of_cells hd
 have hcs':cs=wordsA:=Array.toList_inj.1 hcs
 subst hcs'
 simp only [World.var?,gWd,Option.bind_some] at hvar
 split at hvar
 ·rename_i c t fr hh
  cases hvar
  exact ⟨t,fr,hh⟩
 ·cases hvar
def layCells (cs:Array Value):Obj→Obj
 | .cells _ t frozen=>.cells cs t frozen
 | o=>o
def litCells:DataW Unit→List Value
 | .agg l=>l.map fun d=>match d with | .lit (.int k z)=>Value.int k z | _=>.nilIface
 | _=>[]
abbrev synS:ByteArray:=⟨#[105,110,118,97,108,105,100,32,115,121,110,116,97,120]⟩
abbrev rngS:ByteArray:=⟨#[118,97,108,117,101,32,111,117,116,32,111,102,32,114,97,110,103,101]⟩
def lowB (P:Program):Nat:=(World.holding P default ⟨#[],#[],[]⟩).heap.size
def laidWorld (P:Program) (os:Os):World :=
 let w0:=World.holding P os ⟨#[.cells #[.string synS] 270,.cells #[.string rngS] 270],#[],[]⟩
 { w0 with heap:=(((((w0.heap.modify 7 (layCells (litCells Rows.laid_math_bits_deBruijn32tab).toArray)).modify 8 (layCells (litCells Rows.laid_math_bits_deBruijn64tab).toArray)).modify 6 (layCells (litCells Rows.laid_internal_strconv_uint64pow10).toArray)).modify 1 (layCells wordsA)).modify 4 (layCells #[.iface 268 (.pointer (some ⟨lowB P,0,none⟩))])).modify 5 (layCells #[.iface 268 (.pointer (some ⟨lowB P+1,0,none⟩))]) }
theorem str_lit {s:ByteArray} {a:List UInt8} (h:s.data.toList=a):Value.string s=stv a:=by
 subst h
 rfl
end Go.Proofs.YtaihhnlfcndecaaGreatDoor
