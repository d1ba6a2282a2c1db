import Derived.Test.YtbjdkekhnajafaaGreatDoorWlkM
import Derived.Maps.OwnSet
import Derived.DeepKeys4
set_option maxRecDepth 100000
set_option maxHeartbeats 8000000
namespace Go.Proofs.YtbjdkekhnajafaaGreatDoor
open Go.ChangeShapes Go.WideShapes Go.ChangeAt Go.RowKit
set_option linter.unusedVariables false
set_option linter.unusedSimpArgs false
theorem aF {nm:List UInt8}{b:Bool}(h:(nm==[])=b):((⟨nm.toArray⟩:ByteArray)==⟨#[]⟩)=b:=by
 rw[<-h];cases nm with
 | nil=>rfl
 | cons x r =>
  show (List.toArray (x::r)==#[])=((x::r)==[]);rw[Bool.eq_iff_iff];simp
theorem y5 (e:Ex)(ao:Option Addr)(cap:Nat)(w:World)(hnm:e.nm.length<=maxLen) :
  Calls Tryz.prog 104 #[exN e ao cap] w fun x w'=>x=.returned (.bool (aD e.k e.n e.nm e.kids.len))/\Below w.heap.size w w':=by
 obtain⟨k0,n,nm,a,f⟩:=e;simp only at hnm;obtain⟨W,hW⟩:∃W,W=aD k0 n nm f.len:=⟨_,rfl⟩
 simp only;rw[<-hW];have HW:Hid (W=aD k0 n nm f.len):=hW;clear hW;have B0:Below w.heap.size w (w.alloc (.cells #[.int .i64 k0,.int .i64 n,stv nm,.slice ao f.len cap] 34)):=(Below.refl _ w).alloc (Nat.le_refl _) _;have E0:(w.alloc (.cells #[.int .i64 k0,.int .i64 n,stv nm,.slice ao f.len cap] 34)).heap[w.heap.size]?=some (.cells #[.int .i64 k0,.int .i64 n,stv nm,.slice ao f.len cap] 34):=heap_alloc_new w _;rw[ah];go_enter Tryz.func104,Tryz.ntmps104;go_upto_region 1 with fail;generalize w.alloc (.cells #[.int .i64 k0,.int .i64 n,stv nm,.slice ao f.len cap] 34)=w0 at *;obtain⟨bx,hbx⟩:∃bx,bx=w.heap.size:=⟨_,rfl⟩
 rw[<-hbx] at E0 B0 ⊢;have HB:Hid (bx=w.heap.size):=hbx;clear hbx;obtain⟨p0,p1,p2,p3,pf⟩:=aI E0;have FIN:∀ {b:Bool},W=b->Value.bool b=.bool W:=fun h=>by rw[h]
 by_cases hkk:(1<=k0/\k0<=3)\/(5<=k0/\k0<=26)
 case neg =>
  have HZ:Hid (W=false):=by
   show W=_;rw[HW.out];cases hd:aD k0 n nm f.len with
   | false=>rfl
   | true=>have:=dI hd;omega
  have b1:∀ c:Int,(1<=c/\c<=3)\/(5<=c/\c<=26)->(k0==c)=false:=fun c hc=>by simp;omega
  have c1:=b1 1 (by omega);have c2:=b1 2 (by omega);have c3:=b1 3 (by omega);have c5:=b1 5 (by omega);have c6:=b1 6 (by omega);have c7:=b1 7 (by omega);have c8:=b1 8 (by omega);have c9:=b1 9 (by omega);have c10:=b1 10 (by omega);have c11:=b1 11 (by omega);have c12:=b1 12 (by omega);have c13:=b1 13 (by omega);have c14:=b1 14 (by omega);have c15:=b1 15 (by omega);have c16:=b1 16 (by omega);have c17:=b1 17 (by omega);have c18:=b1 18 (by omega);have c19:=b1 19 (by omega);have c20:=b1 20 (by omega);have c21:=b1 21 (by omega);have c22:=b1 22 (by omega);have c23:=b1 23 (by omega);have c24:=b1 24 (by omega);have c25:=b1 25 (by omega);have c26:=b1 26 (by omega);clear HW E0 p1 p2 p3 hkk b1;go_wp2;go_ret;rw[HZ.out];exact⟨rfl,by rw[<-HB.out];exact B0⟩
 case pos =>
 have hc:k0=1\/k0=2\/k0=3\/k0=5\/k0=6\/k0=7\/k0=8\/k0=9\/k0=10\/k0=11\/k0=12\/k0=13\/k0=14\/k0=15\/k0=16\/k0=17\/k0=18\/k0=19\/k0=20\/k0=21\/k0=22\/k0=23\/k0=24\/k0=25\/k0=26:=by omega
 clear hkk E0;rcases hc with rfl|rfl|rfl|rfl|rfl|rfl|rfl|rfl|rfl|rfl|rfl|rfl|rfl|rfl|rfl|rfl|rfl|rfl|rfl|rfl|rfl|rfl|rfl|rfl|rfl
 ·cases g0:(nm==[]) with
  | false =>
   have g0b:=aF g0;have HZ:Hid (W=false):=by show W=_;rw[HW.out];simp[aD,g0]
   clear HW;go_wp2;go_ret;rw[HZ.out];exact⟨rfl,by rw[<-HB.out];exact B0⟩
  | true =>
   have g0b:=aF g0;cases g1:((f.len:Int)==0) with
   | false =>
    have g1b:(f.len==0)=false:=by have h:=g1;rw[Bool.eq_iff_iff] at h ⊢;simp at h ⊢;omega
    have HZ:Hid (W=false):=by show W=_;rw[HW.out];simp[aD,g0,g1b]
    clear HW;go_wp2;go_ret;rw[HZ.out];exact⟨rfl,by rw[<-HB.out];exact B0⟩
   | true =>
    have g1b:(f.len==0)=true:=by have h:=g1;rw[Bool.eq_iff_iff] at h ⊢;simp at h ⊢;omega
    have HZ:Hid (W=true):=by show W=_;rw[HW.out];simp[aD,g0,g1b]
    clear HW;go_wp2;go_ret;rw[HZ.out];exact⟨rfl,by rw[<-HB.out];exact B0⟩
 ·cases g0:(n==0) with
  | true =>
   cases g1:(nm==[]) with
   | false =>
    have g1b:=aF g1;have HZ:Hid (W=false):=by show W=_;rw[HW.out];simp[aD,g0,g1]
    clear HW;go_wp2;go_ret;rw[HZ.out];exact⟨rfl,by rw[<-HB.out];exact B0⟩
   | true =>
    have g1b:=aF g1;have HZ:Hid (W=((f.len:Int)==0)):=by show W=_;rw[HW.out];rw[Bool.eq_iff_iff];simp[aD,g0,g1]
    clear HW;go_wp2;go_ret;rw[HZ.out];exact⟨rfl,by rw[<-HB.out];exact B0⟩
  | false =>
   cases g2:(n==1) with
   | false =>
    have HZ:Hid (W=false):=by show W=_;rw[HW.out];simp[aD,g0,g2]
    clear HW;go_wp2;go_ret;rw[HZ.out];exact⟨rfl,by rw[<-HB.out];exact B0⟩
   | true =>
    cases g1:(nm==[]) with
    | false =>
     have g1b:=aF g1;have HZ:Hid (W=false):=by show W=_;rw[HW.out];simp[aD,g0,g1]
     clear HW;go_wp2;go_ret;rw[HZ.out];exact⟨rfl,by rw[<-HB.out];exact B0⟩
    | true =>
     have g1b:=aF g1;have HZ:Hid (W=((f.len:Int)==0)):=by show W=_;rw[HW.out];rw[Bool.eq_iff_iff];simp[aD,g0,g1,g2]
     clear HW;go_wp2;go_ret;rw[HZ.out];exact⟨rfl,by rw[<-HB.out];exact B0⟩
 ·cases g0:decide (0<=n) with
  | false =>
   have g0b:=of_decide_eq_false g0;have HZ:Hid (W=false):=by show W=_;rw[HW.out];simp[aD,g0b]
   clear HW;go_wp2;go_ret;rw[HZ.out];exact⟨rfl,by rw[<-HB.out];exact B0⟩
  | true =>
   have g0b:=of_decide_eq_true g0;cases g1:(nm==[]) with
   | false =>
    have g1b:=aF g1;have HZ:Hid (W=false):=by show W=_;rw[HW.out];simp[aD,g0b,g1]
    clear HW;go_wp2;go_ret;rw[HZ.out];exact⟨rfl,by rw[<-HB.out];exact B0⟩
   | true =>
    have g1b:=aF g1;cases g2:((f.len:Int)==0) with
    | false =>
     have g2b:(f.len==0)=false:=by have h:=g2;rw[Bool.eq_iff_iff] at h ⊢;simp at h ⊢;omega
     have HZ:Hid (W=false):=by show W=_;rw[HW.out];simp[aD,g0b,g1,g2b]
     clear HW;go_wp2;go_ret;rw[HZ.out];exact⟨rfl,by rw[<-HB.out];exact B0⟩
    | true =>
     have g2b:(f.len==0)=true:=by have h:=g2;rw[Bool.eq_iff_iff] at h ⊢;simp at h ⊢;omega
     have HZ:Hid (W=true):=by show W=_;rw[HW.out];simp[aD,g0b,g1,g2b]
     clear HW;go_wp2;go_ret;rw[HZ.out];exact⟨rfl,by rw[<-HB.out];exact B0⟩
 ·cases g0:decide (0<=n) with
  | false =>
   have g0b:=of_decide_eq_false g0;have HZ:Hid (W=false):=by show W=_;rw[HW.out];simp[aD,g0b]
   clear HW;go_wp2;go_ret;rw[HZ.out];exact⟨rfl,by rw[<-HB.out];exact B0⟩
  | true =>
   have g0b:=of_decide_eq_true g0;cases g1:(nm==[]) with
   | false =>
    have g1b:=aF g1;have HZ:Hid (W=false):=by show W=_;rw[HW.out];simp[aD,g0b,g1]
    clear HW;go_wp2;go_ret;rw[HZ.out];exact⟨rfl,by rw[<-HB.out];exact B0⟩
   | true =>
    have g1b:=aF g1;cases g2:((f.len:Int)==0) with
    | false =>
     have g2b:(f.len==0)=false:=by have h:=g2;rw[Bool.eq_iff_iff] at h ⊢;simp at h ⊢;omega
     have HZ:Hid (W=false):=by show W=_;rw[HW.out];simp[aD,g0b,g1,g2b]
     clear HW;go_wp2;go_ret;rw[HZ.out];exact⟨rfl,by rw[<-HB.out];exact B0⟩
    | true =>
     have g2b:(f.len==0)=true:=by have h:=g2;rw[Bool.eq_iff_iff] at h ⊢;simp at h ⊢;omega
     have HZ:Hid (W=true):=by show W=_;rw[HW.out];simp[aD,g0b,g1,g2b]
     clear HW;go_wp2;go_ret;rw[HZ.out];exact⟨rfl,by rw[<-HB.out];exact B0⟩
 ·cases g0:(n==0) with
  | false =>
   have HZ:Hid (W=false):=by show W=_;rw[HW.out];simp[aD,g0]
   clear HW;go_wp2;go_ret;rw[HZ.out];exact⟨rfl,by rw[<-HB.out];exact B0⟩
  | true =>
   cases g1:(nm==[]) with
   | false =>
    have g1b:=aF g1;have HZ:Hid (W=false):=by show W=_;rw[HW.out];simp[aD,g0,g1]
    clear HW;go_wp2;go_ret;rw[HZ.out];exact⟨rfl,by rw[<-HB.out];exact B0⟩
   | true =>
    have g1b:=aF g1;cases g2:((f.len:Int)==1) with
    | false =>
     have g2b:(f.len==1)=false:=by have h:=g2;rw[Bool.eq_iff_iff] at h ⊢;simp at h ⊢;omega
     have HZ:Hid (W=false):=by show W=_;rw[HW.out];simp[aD,g0,g1,g2b]
     clear HW;go_wp2;go_ret;rw[HZ.out];exact⟨rfl,by rw[<-HB.out];exact B0⟩
    | true =>
     have g2b:(f.len==1)=true:=by have h:=g2;rw[Bool.eq_iff_iff] at h ⊢;simp at h ⊢;omega
     have HZ:Hid (W=true):=by show W=_;rw[HW.out];simp[aD,g0,g1,g2b]
     clear HW;go_wp2;go_ret;rw[HZ.out];exact⟨rfl,by rw[<-HB.out];exact B0⟩
 ·cases g0:(n==0) with
  | false =>
   have HZ:Hid (W=false):=by show W=_;rw[HW.out];simp[aD,g0]
   clear HW;go_wp2;go_ret;rw[HZ.out];exact⟨rfl,by rw[<-HB.out];exact B0⟩
  | true =>
   cases g1:(nm==[]) with
   | false =>
    have g1b:=aF g1;have HZ:Hid (W=false):=by show W=_;rw[HW.out];simp[aD,g0,g1]
    clear HW;go_wp2;go_ret;rw[HZ.out];exact⟨rfl,by rw[<-HB.out];exact B0⟩
   | true =>
    have g1b:=aF g1;cases g2:((f.len:Int)==1) with
    | false =>
     have g2b:(f.len==1)=false:=by have h:=g2;rw[Bool.eq_iff_iff] at h ⊢;simp at h ⊢;omega
     have HZ:Hid (W=false):=by show W=_;rw[HW.out];simp[aD,g0,g1,g2b]
     clear HW;go_wp2;go_ret;rw[HZ.out];exact⟨rfl,by rw[<-HB.out];exact B0⟩
    | true =>
     have g2b:(f.len==1)=true:=by have h:=g2;rw[Bool.eq_iff_iff] at h ⊢;simp at h ⊢;omega
     have HZ:Hid (W=true):=by show W=_;rw[HW.out];simp[aD,g0,g1,g2b]
     clear HW;go_wp2;go_ret;rw[HZ.out];exact⟨rfl,by rw[<-HB.out];exact B0⟩
 ·cases g0:(n==0) with
  | false =>
   have HZ:Hid (W=false):=by show W=_;rw[HW.out];simp[aD,g0]
   clear HW;go_wp2;go_ret;rw[HZ.out];exact⟨rfl,by rw[<-HB.out];exact B0⟩
  | true =>
   cases g1:(nm==[]) with
   | false =>
    have g1b:=aF g1;have HZ:Hid (W=false):=by show W=_;rw[HW.out];simp[aD,g0,g1]
    clear HW;go_wp2;go_ret;rw[HZ.out];exact⟨rfl,by rw[<-HB.out];exact B0⟩
   | true =>
    have g1b:=aF g1;cases g2:((f.len:Int)==2) with
    | false =>
     have g2b:(f.len==2)=false:=by have h:=g2;rw[Bool.eq_iff_iff] at h ⊢;simp at h ⊢;omega
     have HZ:Hid (W=false):=by show W=_;rw[HW.out];simp[aD,g0,g1,g2b]
     clear HW;go_wp2;go_ret;rw[HZ.out];exact⟨rfl,by rw[<-HB.out];exact B0⟩
    | true =>
     have g2b:(f.len==2)=true:=by have h:=g2;rw[Bool.eq_iff_iff] at h ⊢;simp at h ⊢;omega
     have HZ:Hid (W=true):=by show W=_;rw[HW.out];simp[aD,g0,g1,g2b]
     clear HW;go_wp2;go_ret;rw[HZ.out];exact⟨rfl,by rw[<-HB.out];exact B0⟩
 ·cases g0:(n==0) with
  | false =>
   have HZ:Hid (W=false):=by show W=_;rw[HW.out];simp[aD,g0]
   clear HW;go_wp2;go_ret;rw[HZ.out];exact⟨rfl,by rw[<-HB.out];exact B0⟩
  | true =>
   cases g1:(nm==[]) with
   | false =>
    have g1b:=aF g1;have HZ:Hid (W=false):=by show W=_;rw[HW.out];simp[aD,g0,g1]
    clear HW;go_wp2;go_ret;rw[HZ.out];exact⟨rfl,by rw[<-HB.out];exact B0⟩
   | true =>
    have g1b:=aF g1;cases g2:((f.len:Int)==2) with
    | false =>
     have g2b:(f.len==2)=false:=by have h:=g2;rw[Bool.eq_iff_iff] at h ⊢;simp at h ⊢;omega
     have HZ:Hid (W=false):=by show W=_;rw[HW.out];simp[aD,g0,g1,g2b]
     clear HW;go_wp2;go_ret;rw[HZ.out];exact⟨rfl,by rw[<-HB.out];exact B0⟩
    | true =>
     have g2b:(f.len==2)=true:=by have h:=g2;rw[Bool.eq_iff_iff] at h ⊢;simp at h ⊢;omega
     have HZ:Hid (W=true):=by show W=_;rw[HW.out];simp[aD,g0,g1,g2b]
     clear HW;go_wp2;go_ret;rw[HZ.out];exact⟨rfl,by rw[<-HB.out];exact B0⟩
 ·cases g0:(n==0) with
  | false =>
   have HZ:Hid (W=false):=by show W=_;rw[HW.out];simp[aD,g0]
   clear HW;go_wp2;go_ret;rw[HZ.out];exact⟨rfl,by rw[<-HB.out];exact B0⟩
  | true =>
   cases g1:(nm==[]) with
   | false =>
    have g1b:=aF g1;have HZ:Hid (W=false):=by show W=_;rw[HW.out];simp[aD,g0,g1]
    clear HW;go_wp2;go_ret;rw[HZ.out];exact⟨rfl,by rw[<-HB.out];exact B0⟩
   | true =>
    have g1b:=aF g1;cases g2:((f.len:Int)==2) with
    | false =>
     have g2b:(f.len==2)=false:=by have h:=g2;rw[Bool.eq_iff_iff] at h ⊢;simp at h ⊢;omega
     have HZ:Hid (W=false):=by show W=_;rw[HW.out];simp[aD,g0,g1,g2b]
     clear HW;go_wp2;go_ret;rw[HZ.out];exact⟨rfl,by rw[<-HB.out];exact B0⟩
    | true =>
     have g2b:(f.len==2)=true:=by have h:=g2;rw[Bool.eq_iff_iff] at h ⊢;simp at h ⊢;omega
     have HZ:Hid (W=true):=by show W=_;rw[HW.out];simp[aD,g0,g1,g2b]
     clear HW;go_wp2;go_ret;rw[HZ.out];exact⟨rfl,by rw[<-HB.out];exact B0⟩
 ·cases g0:(n==0) with
  | false =>
   have HZ:Hid (W=false):=by show W=_;rw[HW.out];simp[aD,g0]
   clear HW;go_wp2;go_ret;rw[HZ.out];exact⟨rfl,by rw[<-HB.out];exact B0⟩
  | true =>
   cases g1:(nm==[]) with
   | false =>
    have g1b:=aF g1;have HZ:Hid (W=false):=by show W=_;rw[HW.out];simp[aD,g0,g1]
    clear HW;go_wp2;go_ret;rw[HZ.out];exact⟨rfl,by rw[<-HB.out];exact B0⟩
   | true =>
    have g1b:=aF g1;cases g2:((f.len:Int)==2) with
    | false =>
     have g2b:(f.len==2)=false:=by have h:=g2;rw[Bool.eq_iff_iff] at h ⊢;simp at h ⊢;omega
     have HZ:Hid (W=false):=by show W=_;rw[HW.out];simp[aD,g0,g1,g2b]
     clear HW;go_wp2;go_ret;rw[HZ.out];exact⟨rfl,by rw[<-HB.out];exact B0⟩
    | true =>
     have g2b:(f.len==2)=true:=by have h:=g2;rw[Bool.eq_iff_iff] at h ⊢;simp at h ⊢;omega
     have HZ:Hid (W=true):=by show W=_;rw[HW.out];simp[aD,g0,g1,g2b]
     clear HW;go_wp2;go_ret;rw[HZ.out];exact⟨rfl,by rw[<-HB.out];exact B0⟩
 ·cases g0:(n==0) with
  | false =>
   have HZ:Hid (W=false):=by show W=_;rw[HW.out];simp[aD,g0]
   clear HW;go_wp2;go_ret;rw[HZ.out];exact⟨rfl,by rw[<-HB.out];exact B0⟩
  | true =>
   cases g1:(nm==[]) with
   | false =>
    have g1b:=aF g1;have HZ:Hid (W=false):=by show W=_;rw[HW.out];simp[aD,g0,g1]
    clear HW;go_wp2;go_ret;rw[HZ.out];exact⟨rfl,by rw[<-HB.out];exact B0⟩
   | true =>
    have g1b:=aF g1;cases g2:((f.len:Int)==2) with
    | false =>
     have g2b:(f.len==2)=false:=by have h:=g2;rw[Bool.eq_iff_iff] at h ⊢;simp at h ⊢;omega
     have HZ:Hid (W=false):=by show W=_;rw[HW.out];simp[aD,g0,g1,g2b]
     clear HW;go_wp2;go_ret;rw[HZ.out];exact⟨rfl,by rw[<-HB.out];exact B0⟩
    | true =>
     have g2b:(f.len==2)=true:=by have h:=g2;rw[Bool.eq_iff_iff] at h ⊢;simp at h ⊢;omega
     have HZ:Hid (W=true):=by show W=_;rw[HW.out];simp[aD,g0,g1,g2b]
     clear HW;go_wp2;go_ret;rw[HZ.out];exact⟨rfl,by rw[<-HB.out];exact B0⟩
 ·cases g0:(n==0) with
  | false =>
   have HZ:Hid (W=false):=by show W=_;rw[HW.out];simp[aD,g0]
   clear HW;go_wp2;go_ret;rw[HZ.out];exact⟨rfl,by rw[<-HB.out];exact B0⟩
  | true =>
   cases g1:(nm==[]) with
   | false =>
    have g1b:=aF g1;have HZ:Hid (W=false):=by show W=_;rw[HW.out];simp[aD,g0,g1]
    clear HW;go_wp2;go_ret;rw[HZ.out];exact⟨rfl,by rw[<-HB.out];exact B0⟩
   | true =>
    have g1b:=aF g1;cases g2:((f.len:Int)==2) with
    | false =>
     have g2b:(f.len==2)=false:=by have h:=g2;rw[Bool.eq_iff_iff] at h ⊢;simp at h ⊢;omega
     have HZ:Hid (W=false):=by show W=_;rw[HW.out];simp[aD,g0,g1,g2b]
     clear HW;go_wp2;go_ret;rw[HZ.out];exact⟨rfl,by rw[<-HB.out];exact B0⟩
    | true =>
     have g2b:(f.len==2)=true:=by have h:=g2;rw[Bool.eq_iff_iff] at h ⊢;simp at h ⊢;omega
     have HZ:Hid (W=true):=by show W=_;rw[HW.out];simp[aD,g0,g1,g2b]
     clear HW;go_wp2;go_ret;rw[HZ.out];exact⟨rfl,by rw[<-HB.out];exact B0⟩
 ·cases g0:(n==0) with
  | false =>
   have HZ:Hid (W=false):=by show W=_;rw[HW.out];simp[aD,g0]
   clear HW;go_wp2;go_ret;rw[HZ.out];exact⟨rfl,by rw[<-HB.out];exact B0⟩
  | true =>
   cases g1:(nm==[]) with
   | false =>
    have g1b:=aF g1;have HZ:Hid (W=false):=by show W=_;rw[HW.out];simp[aD,g0,g1]
    clear HW;go_wp2;go_ret;rw[HZ.out];exact⟨rfl,by rw[<-HB.out];exact B0⟩
   | true =>
    have g1b:=aF g1;cases g2:((f.len:Int)==2) with
    | false =>
     have g2b:(f.len==2)=false:=by have h:=g2;rw[Bool.eq_iff_iff] at h ⊢;simp at h ⊢;omega
     have HZ:Hid (W=false):=by show W=_;rw[HW.out];simp[aD,g0,g1,g2b]
     clear HW;go_wp2;go_ret;rw[HZ.out];exact⟨rfl,by rw[<-HB.out];exact B0⟩
    | true =>
     have g2b:(f.len==2)=true:=by have h:=g2;rw[Bool.eq_iff_iff] at h ⊢;simp at h ⊢;omega
     have HZ:Hid (W=true):=by show W=_;rw[HW.out];simp[aD,g0,g1,g2b]
     clear HW;go_wp2;go_ret;rw[HZ.out];exact⟨rfl,by rw[<-HB.out];exact B0⟩
 ·cases g0:(n==0) with
  | false =>
   have HZ:Hid (W=false):=by show W=_;rw[HW.out];simp[aD,g0]
   clear HW;go_wp2;go_ret;rw[HZ.out];exact⟨rfl,by rw[<-HB.out];exact B0⟩
  | true =>
   cases g1:(nm==[]) with
   | false =>
    have g1b:=aF g1;have HZ:Hid (W=false):=by show W=_;rw[HW.out];simp[aD,g0,g1]
    clear HW;go_wp2;go_ret;rw[HZ.out];exact⟨rfl,by rw[<-HB.out];exact B0⟩
   | true =>
    have g1b:=aF g1;cases g2:((f.len:Int)==2) with
    | false =>
     have g2b:(f.len==2)=false:=by have h:=g2;rw[Bool.eq_iff_iff] at h ⊢;simp at h ⊢;omega
     have HZ:Hid (W=false):=by show W=_;rw[HW.out];simp[aD,g0,g1,g2b]
     clear HW;go_wp2;go_ret;rw[HZ.out];exact⟨rfl,by rw[<-HB.out];exact B0⟩
    | true =>
     have g2b:(f.len==2)=true:=by have h:=g2;rw[Bool.eq_iff_iff] at h ⊢;simp at h ⊢;omega
     have HZ:Hid (W=true):=by show W=_;rw[HW.out];simp[aD,g0,g1,g2b]
     clear HW;go_wp2;go_ret;rw[HZ.out];exact⟨rfl,by rw[<-HB.out];exact B0⟩
 ·cases g0:(n==0) with
  | false =>
   have HZ:Hid (W=false):=by show W=_;rw[HW.out];simp[aD,g0]
   clear HW;go_wp2;go_ret;rw[HZ.out];exact⟨rfl,by rw[<-HB.out];exact B0⟩
  | true =>
   cases g1:(nm==[]) with
   | false =>
    have g1b:=aF g1;have HZ:Hid (W=false):=by show W=_;rw[HW.out];simp[aD,g0,g1]
    clear HW;go_wp2;go_ret;rw[HZ.out];exact⟨rfl,by rw[<-HB.out];exact B0⟩
   | true =>
    have g1b:=aF g1;cases g2:((f.len:Int)==2) with
    | false =>
     have g2b:(f.len==2)=false:=by have h:=g2;rw[Bool.eq_iff_iff] at h ⊢;simp at h ⊢;omega
     have HZ:Hid (W=false):=by show W=_;rw[HW.out];simp[aD,g0,g1,g2b]
     clear HW;go_wp2;go_ret;rw[HZ.out];exact⟨rfl,by rw[<-HB.out];exact B0⟩
    | true =>
     have g2b:(f.len==2)=true:=by have h:=g2;rw[Bool.eq_iff_iff] at h ⊢;simp at h ⊢;omega
     have HZ:Hid (W=true):=by show W=_;rw[HW.out];simp[aD,g0,g1,g2b]
     clear HW;go_wp2;go_ret;rw[HZ.out];exact⟨rfl,by rw[<-HB.out];exact B0⟩
 ·cases g0:(n==0) with
  | false =>
   have HZ:Hid (W=false):=by show W=_;rw[HW.out];simp[aD,g0]
   clear HW;go_wp2;go_ret;rw[HZ.out];exact⟨rfl,by rw[<-HB.out];exact B0⟩
  | true =>
   cases g1:(nm==[]) with
   | false =>
    have g1b:=aF g1;have HZ:Hid (W=false):=by show W=_;rw[HW.out];simp[aD,g0,g1]
    clear HW;go_wp2;go_ret;rw[HZ.out];exact⟨rfl,by rw[<-HB.out];exact B0⟩
   | true =>
    have g1b:=aF g1;cases g2:((f.len:Int)==2) with
    | false =>
     have g2b:(f.len==2)=false:=by have h:=g2;rw[Bool.eq_iff_iff] at h ⊢;simp at h ⊢;omega
     have HZ:Hid (W=false):=by show W=_;rw[HW.out];simp[aD,g0,g1,g2b]
     clear HW;go_wp2;go_ret;rw[HZ.out];exact⟨rfl,by rw[<-HB.out];exact B0⟩
    | true =>
     have g2b:(f.len==2)=true:=by have h:=g2;rw[Bool.eq_iff_iff] at h ⊢;simp at h ⊢;omega
     have HZ:Hid (W=true):=by show W=_;rw[HW.out];simp[aD,g0,g1,g2b]
     clear HW;go_wp2;go_ret;rw[HZ.out];exact⟨rfl,by rw[<-HB.out];exact B0⟩
 ·cases g0:(n==0) with
  | false =>
   have HZ:Hid (W=false):=by show W=_;rw[HW.out];simp[aD,g0]
   clear HW;go_wp2;go_ret;rw[HZ.out];exact⟨rfl,by rw[<-HB.out];exact B0⟩
  | true =>
   cases g1:(nm==[]) with
   | false =>
    have g1b:=aF g1;have HZ:Hid (W=false):=by show W=_;rw[HW.out];simp[aD,g0,g1]
    clear HW;go_wp2;go_ret;rw[HZ.out];exact⟨rfl,by rw[<-HB.out];exact B0⟩
   | true =>
    have g1b:=aF g1;cases g2:((f.len:Int)==2) with
    | false =>
     have g2b:(f.len==2)=false:=by have h:=g2;rw[Bool.eq_iff_iff] at h ⊢;simp at h ⊢;omega
     have HZ:Hid (W=false):=by show W=_;rw[HW.out];simp[aD,g0,g1,g2b]
     clear HW;go_wp2;go_ret;rw[HZ.out];exact⟨rfl,by rw[<-HB.out];exact B0⟩
    | true =>
     have g2b:(f.len==2)=true:=by have h:=g2;rw[Bool.eq_iff_iff] at h ⊢;simp at h ⊢;omega
     have HZ:Hid (W=true):=by show W=_;rw[HW.out];simp[aD,g0,g1,g2b]
     clear HW;go_wp2;go_ret;rw[HZ.out];exact⟨rfl,by rw[<-HB.out];exact B0⟩
 ·cases g0:(n==0) with
  | false =>
   have HZ:Hid (W=false):=by show W=_;rw[HW.out];simp[aD,g0]
   clear HW;go_wp2;go_ret;rw[HZ.out];exact⟨rfl,by rw[<-HB.out];exact B0⟩
  | true =>
   cases g1:(nm==[]) with
   | false =>
    have g1b:=aF g1;have HZ:Hid (W=false):=by show W=_;rw[HW.out];simp[aD,g0,g1]
    clear HW;go_wp2;go_ret;rw[HZ.out];exact⟨rfl,by rw[<-HB.out];exact B0⟩
   | true =>
    have g1b:=aF g1;cases g2:((f.len:Int)==3) with
    | false =>
     have g2b:(f.len==3)=false:=by have h:=g2;rw[Bool.eq_iff_iff] at h ⊢;simp at h ⊢;omega
     have HZ:Hid (W=false):=by show W=_;rw[HW.out];simp[aD,g0,g1,g2b]
     clear HW;go_wp2;go_ret;rw[HZ.out];exact⟨rfl,by rw[<-HB.out];exact B0⟩
    | true =>
     have g2b:(f.len==3)=true:=by have h:=g2;rw[Bool.eq_iff_iff] at h ⊢;simp at h ⊢;omega
     have HZ:Hid (W=true):=by show W=_;rw[HW.out];simp[aD,g0,g1,g2b]
     clear HW;go_wp2;go_ret;rw[HZ.out];exact⟨rfl,by rw[<-HB.out];exact B0⟩
 ·cases g0:(nm==[]) with
  | false =>
   have g0b:=aF g0;have HZ:Hid (W=false):=by show W=_;rw[HW.out];simp[aD,g0]
   clear HW;go_wp2;go_ret;rw[HZ.out];exact⟨rfl,by rw[<-HB.out];exact B0⟩
  | true =>
   have g0b:=aF g0;have HC:Hid (W=((decide (1<=n)&&decide (n<=3)&&f.len==2)||(decide (4<=n)&&decide (n<=10)&&f.len==1))):=by show W=_;rw[HW.out];simp[aD,g0]
   clear HW;by_cases h1:1<=n/\n<=3
   ·obtain⟨h1,h3⟩:=h1;cases g1:((f.len:Int)==2) with
    | true =>
     have HZ:Hid (W=true):=by show W=_;rw[HC.out];simp at g1 ⊢;omega
     clear HC;go_wp2;go_ret;rw[HZ.out];exact⟨rfl,by rw[<-HB.out];exact B0⟩
    | false =>
     have h4:¬(4:Int)<=n:=by omega
     have HZ:Hid (W=false):=by show W=_;rw[HC.out];simp at g1 ⊢;omega
     clear HC;go_wp2;go_ret;rw[HZ.out];exact⟨rfl,by rw[<-HB.out];exact B0⟩
   ·by_cases h2:4<=n/\n<=10
    ·obtain⟨h4,h5⟩:=h2;have h6:¬n<=3:=by omega
     have h7:(1:Int)<=n:=by omega
     have HZ:Hid (W=((f.len:Int)==1)):=by show W=_;rw[HC.out,Bool.eq_iff_iff];simp;omega
     clear HC h1;go_wp2;go_ret;rw[HZ.out];exact⟨rfl,by rw[<-HB.out];exact B0⟩
    ·have HZ:Hid (W=false):=by show W=_;rw[HC.out];simp;omega
     clear HC;by_cases h3:1<=n
     ·have h4:¬n<=3:=by omega
      have h5:(4:Int)<=n:=by omega
      have h6:¬n<=10:=by omega
      clear h1 h2;go_wp2;go_ret;rw[HZ.out];exact⟨rfl,by rw[<-HB.out];exact B0⟩
     ·have h5:¬(4:Int)<=n:=by omega
      clear h1 h2;go_wp2;go_ret;rw[HZ.out];exact⟨rfl,by rw[<-HB.out];exact B0⟩
 ·cases g0:decide (1<=n) with
  | false =>
   have g0b:=of_decide_eq_false g0;have HZ:Hid (W=false):=by show W=_;rw[HW.out];simp[aD,g0b]
   clear HW;go_wp2;go_ret;rw[HZ.out];exact⟨rfl,by rw[<-HB.out];exact B0⟩
  | true =>
   have g0b:=of_decide_eq_true g0;cases g1:decide (n<=6) with
   | false =>
    have g1b:=of_decide_eq_false g1;have HZ:Hid (W=false):=by show W=_;rw[HW.out];simp[aD,g0b,g1b]
    clear HW;go_wp2;go_ret;rw[HZ.out];exact⟨rfl,by rw[<-HB.out];exact B0⟩
   | true =>
    have g1b:=of_decide_eq_true g1;cases g2:(nm==[]) with
    | false =>
     have g2b:=aF g2;have HZ:Hid (W=false):=by show W=_;rw[HW.out];simp[aD,g0b,g1b,g2]
     clear HW;go_wp2;go_ret;rw[HZ.out];exact⟨rfl,by rw[<-HB.out];exact B0⟩
    | true =>
     have g2b:=aF g2;cases g3:((f.len:Int)==2) with
     | false =>
      have g3b:(f.len==2)=false:=by have h:=g3;rw[Bool.eq_iff_iff] at h ⊢;simp at h ⊢;omega
      have HZ:Hid (W=false):=by show W=_;rw[HW.out];simp[aD,g0b,g1b,g2,g3b]
      clear HW;go_wp2;go_ret;rw[HZ.out];exact⟨rfl,by rw[<-HB.out];exact B0⟩
     | true =>
      have g3b:(f.len==2)=true:=by have h:=g3;rw[Bool.eq_iff_iff] at h ⊢;simp at h ⊢;omega
      have HZ:Hid (W=true):=by show W=_;rw[HW.out];simp[aD,g0b,g1b,g2,g3b]
      clear HW;go_wp2;go_ret;rw[HZ.out];exact⟨rfl,by rw[<-HB.out];exact B0⟩
 ·cases g0:(n==0) with
  | false =>
   have HZ:Hid (W=false):=by show W=_;rw[HW.out];simp[aD,g0]
   clear HW;go_wp2;go_ret;rw[HZ.out];exact⟨rfl,by rw[<-HB.out];exact B0⟩
  | true =>
   cases g1:(nm==[]) with
   | false =>
    have g1b:=aF g1;have HZ:Hid (W=false):=by show W=_;rw[HW.out];simp[aD,g0,g1]
    clear HW;go_wp2;go_ret;rw[HZ.out];exact⟨rfl,by rw[<-HB.out];exact B0⟩
   | true =>
    have g1b:=aF g1;cases g2:((f.len:Int)==0) with
    | false =>
     have g2b:(f.len==0)=false:=by have h:=g2;rw[Bool.eq_iff_iff] at h ⊢;simp at h ⊢;omega
     have HZ:Hid (W=false):=by show W=_;rw[HW.out];simp[aD,g0,g1,g2b]
     clear HW;go_wp2;go_ret;rw[HZ.out];exact⟨rfl,by rw[<-HB.out];exact B0⟩
    | true =>
     have g2b:(f.len==0)=true:=by have h:=g2;rw[Bool.eq_iff_iff] at h ⊢;simp at h ⊢;omega
     have HZ:Hid (W=true):=by show W=_;rw[HW.out];simp[aD,g0,g1,g2b]
     clear HW;go_wp2;go_ret;rw[HZ.out];exact⟨rfl,by rw[<-HB.out];exact B0⟩
 ·cases g0:(n==0) with
  | false =>
   have HZ:Hid (W=false):=by show W=_;rw[HW.out];simp[aD,g0]
   clear HW;go_wp2;go_ret;rw[HZ.out];exact⟨rfl,by rw[<-HB.out];exact B0⟩
  | true =>
   cases g1:((f.len:Int)==0) with
   | false =>
    have g1b:(f.len==0)=false:=by have h:=g1;rw[Bool.eq_iff_iff] at h ⊢;simp at h ⊢;omega
    have HZ:Hid (W=false):=by show W=_;rw[HW.out];simp[aD,g0,g1b]
    clear HW;go_wp2;go_ret;rw[HZ.out];exact⟨rfl,by rw[<-HB.out];exact B0⟩
   | true =>
    have g1b:(f.len==0)=true:=by have h:=g1;rw[Bool.eq_iff_iff] at h ⊢;simp at h ⊢;omega
    have HZ:Hid (W=aX nm):=by show W=_;rw[HW.out];simp[aD,g0,g1b]
    have c1:=fun w=>ol ⟨nm.toArray⟩ w (by show nm.toArray.size<=maxLen;simpa using hnm);clear HW;go_wp2_with (go_at_call 126;refine(c1 _).mono ?_;rintro x w1 ⟨rfl,b1⟩);have B1:=B0.trans (b1.mono (by have:=HB.out;have:=B0.size;omega));clear c1 p0 p1 p2 p3 pf;go_wp2;go_ret;rw[HZ.out];exact⟨rfl,by rw[<-HB.out];exact B1⟩
 ·cases g0:(n==0) with
  | false =>
   have HZ:Hid (W=false):=by show W=_;rw[HW.out];simp[aD,g0]
   clear HW;go_wp2;go_ret;rw[HZ.out];exact⟨rfl,by rw[<-HB.out];exact B0⟩
  | true =>
   cases g1:(nm==[]) with
   | false =>
    have g1b:=aF g1;have HZ:Hid (W=false):=by show W=_;rw[HW.out];simp[aD,g0,g1]
    clear HW;go_wp2;go_ret;rw[HZ.out];exact⟨rfl,by rw[<-HB.out];exact B0⟩
   | true =>
    have g1b:=aF g1;cases g2:((f.len:Int)==1) with
    | false =>
     have g2b:(f.len==1)=false:=by have h:=g2;rw[Bool.eq_iff_iff] at h ⊢;simp at h ⊢;omega
     have HZ:Hid (W=false):=by show W=_;rw[HW.out];simp[aD,g0,g1,g2b]
     clear HW;go_wp2;go_ret;rw[HZ.out];exact⟨rfl,by rw[<-HB.out];exact B0⟩
    | true =>
     have g2b:(f.len==1)=true:=by have h:=g2;rw[Bool.eq_iff_iff] at h ⊢;simp at h ⊢;omega
     have HZ:Hid (W=true):=by show W=_;rw[HW.out];simp[aD,g0,g1,g2b]
     clear HW;go_wp2;go_ret;rw[HZ.out];exact⟨rfl,by rw[<-HB.out];exact B0⟩
 ·cases g0:(n==0) with
  | false =>
   have HZ:Hid (W=false):=by show W=_;rw[HW.out];simp[aD,g0]
   clear HW;go_wp2;go_ret;rw[HZ.out];exact⟨rfl,by rw[<-HB.out];exact B0⟩
  | true =>
   cases g1:(nm==[]) with
   | false =>
    have g1b:=aF g1;have HZ:Hid (W=false):=by show W=_;rw[HW.out];simp[aD,g0,g1]
    clear HW;go_wp2;go_ret;rw[HZ.out];exact⟨rfl,by rw[<-HB.out];exact B0⟩
   | true =>
    have g1b:=aF g1;have HZ:Hid (W=true):=by show W=_;rw[HW.out];simp[aD,g0,g1]
    clear HW;go_wp2;go_ret;rw[HZ.out];exact⟨rfl,by rw[<-HB.out];exact B0⟩
 ·cases g0:(nm==[]) with
  | false =>
   have g0b:=aF g0;have HZ:Hid (W=false):=by show W=_;rw[HW.out];simp[aD,g0]
   clear HW;go_wp2;go_ret;rw[HZ.out];exact⟨rfl,by rw[<-HB.out];exact B0⟩
  | true =>
   have g0b:=aF g0;cases g1:((f.len:Int)==1) with
   | false =>
    have g1b:(f.len==1)=false:=by have h:=g1;rw[Bool.eq_iff_iff] at h ⊢;simp at h ⊢;omega
    have HZ:Hid (W=false):=by show W=_;rw[HW.out];simp[aD,g0,g1b]
    clear HW;go_wp2;go_ret;rw[HZ.out];exact⟨rfl,by rw[<-HB.out];exact B0⟩
   | true =>
    have g1b:(f.len==1)=true:=by have h:=g1;rw[Bool.eq_iff_iff] at h ⊢;simp at h ⊢;omega
    have HZ:Hid (W=true):=by show W=_;rw[HW.out];simp[aD,g0,g1b]
    clear HW;go_wp2;go_ret;rw[HZ.out];exact⟨rfl,by rw[<-HB.out];exact B0⟩
open Go.ChangeShapes Go.WideShapes Go.ChangeAt Go.RowKit Go.Maps
theorem vR {P:Program}{K:TypeId}{R:Value->Option (DataW Unit × List MemPlace)}{w:World}{b n:Nat}{D:DataW Unit}(h:w.ownsMap P K R b n D):w.ownsMap P K R b (Maps.size D) D:=by
 obtain⟨es,clock,hb,F,hs,rfl⟩:=h;exact⟨es,clock,hb,F,by simp[Maps.size,length_sorted],rfl⟩
theorem tD {P:Program}{K:TypeId}{R:Value->Option (DataW Unit × List MemPlace)}{w w':World}{b n:Nat}{D:DataW Unit}(h:w.ownsMap P K R b n D)(e:w'.heap[b]?=w.heap[b]?):w'.ownsMap P K R b n D:=by
 obtain⟨es,clock,hb,F,hs,hD⟩:=h;exact⟨es,clock,e.trans hb,F,hs,hD⟩
theorem ot:Keyed Tryz.prog 3:=int_keyed Tryz.underlying3
theorem wM (k:Int):WideAt.IsKeyLit (.int .i64 k):=trivial
def jW:List Value->Option (DataW Unit × List MemPlace)
 | [.int .i64 a,.int .i64 b,.string s,.slice _ 0 _]=>some (.agg [.lit (.int .i64 a),.lit (.int .i64 b),.lit (.string s.data.toList),.lit (.int .i64 0)],[])
 | [.int .i64 a,.int .i64 b,.string s,.slice (some ⟨g,off,none⟩) (l+1) c]=>some (.agg [.lit (.int .i64 a),.lit (.int .i64 b),.lit (.string s.data.toList),.lit (.int .i64 1),.lit (.int .i64 g),.lit (.int .i64 off),.lit (.int .i64 l),.lit (.int .i64 c)],[])
 | _=>none
def gP (v:Value):Option (DataW Unit × List MemPlace) :=
 match v with
 | .agg cs=>jW cs.toList
 | _=>none
theorem gh {u:List Value}{d:DataW Unit}{p:List MemPlace}(h:jW u=some (d,p)):∃a b s ao l c,u=[.int .i64 a,.int .i64 b,.string s,.slice ao l c]/\(l=0\/∃g off m,l=m+1/\ao=some ⟨g,off,none⟩):=by
 unfold jW at h;split at h
 ·exact⟨_,_,_,_,_,_,rfl,.inl rfl⟩
 ·exact⟨_,_,_,_,_,_,rfl,.inr ⟨_,_,_,rfl,rfl⟩⟩
 ·cases h
theorem rp {u v:List Value}{d:DataW Unit}{p q:List MemPlace}(h:jW u=some (d,p))(k:jW v=some (d,q)):∃a b s ao ao' l c c',u=[.int .i64 a,.int .i64 b,.string s,.slice ao l c]/\v=[.int .i64 a,.int .i64 b,.string s,.slice ao' l c']/\(l=0\/ao=ao'):=by
 obtain⟨a,b,⟨⟨s⟩⟩,ao,l,c,rfl,hao⟩:=gh h;obtain⟨a',b',⟨⟨s'⟩⟩,ao',l',c',rfl,hao'⟩:=gh k;rcases hao with rfl|⟨g,off,m,rfl,rfl⟩<;>rcases hao' with rfl|⟨g',off',m',rfl,rfl⟩<;>simp only[jW,Option.some.injEq,Prod.mk.injEq] at h k
 all_goals (
  have e:=h.1.trans k.1.symm;simp at e)
 ·obtain⟨rfl,rfl,rfl⟩:=e;exact⟨_,_,_,_,_,_,_,_,rfl,rfl,.inl rfl⟩
 ·obtain⟨rfl,rfl,rfl,h1,h2,h3,h4⟩:=e;obtain rfl:g=g':=Int.ofNat.inj h1;obtain rfl:off=off':=Int.ofNat.inj h2;obtain rfl:m=m':=Int.ofNat.inj h3;exact⟨_,_,_,_,_,_,_,_,rfl,rfl,.inr rfl⟩
theorem q7 {y:Ex}{ao:Option Addr}{cap:Nat}{v:Value}{d:DataW Unit}{p q:List MemPlace}(h:gP (exN y ao cap)=some (d,p))(k:gP v=some (d,q)):∃ao' cap',v=exN y ao' cap'/\(y.kids.len=0\/ao'=ao):=by
 unfold gP at h k;rw[ah] at h;simp only at h;split at k
 ·rename_i cs
  obtain⟨a,b,s,a1,a2,l,c,c',e1,e2,e3⟩:=rp h k;have e2':cs=#[.int .i64 a,.int .i64 b,.string s,.slice a2 l c']:=Array.toList_inj.1 e2;simp at e1;obtain⟨rfl,rfl,rfl,rfl,rfl,rfl⟩:=e1;exact⟨a2,c',by rw[e2'];rfl,e3.imp id Eq.symm⟩
 ·cases k
theorem yW (w:World):(zeroValue 34).run Tryz.prog w=.ok (.agg #[.int .i64 0,.int .i64 0,.string ⟨#[]⟩,.slice none 0 0]) w:=by kernel_rfl
def ndZ:DataW Unit:=.agg [.lit (.int .i64 0),.lit (.int .i64 0),.lit (.string []),.lit (.int .i64 0)]
theorem ki:gP (.agg #[.int .i64 0,.int .i64 0,.string ⟨#[]⟩,.slice none 0 0])=some (ndZ,[]):=rfl
theorem vN {w:World}{P:Nat->Prop}(e:Ex){ao:Option Addr}(cap:Nat)(h:SlN w P e.kids ao):∃d,gP (exN e ao cap)=some (d,[]):=by
 rcases h with h|⟨b,off,zs,rfl,-⟩
 ·rw[ah,h];exact⟨_,rfl⟩
 ·rw[ah];cases hl:e.kids.len with
  | zero=>exact⟨_,rfl⟩
  | succ m=>exact⟨_,rfl⟩
theorem rq:∀ {f:Fs},f.len=0->f=.nil
 | ⟨none⟩,_=>rfl
 | ⟨some ⟨k,n,nm,a,ks,r⟩⟩,h=>by simp[Fs.len] at h
def MpN (w:World)(P:Nat->Prop)(b m:Nat)(t:Nat->Option Ex):Prop :=
 ∃D:DataW Unit,w.ownsMap Tryz.prog 3 gP b m D/\Maps.size D=m /\
  (∀ k y,t k=some y->Maps.has D (.int .i64 (k:Nat))=true/\∃ao cap,gP (exN y ao cap)=some (D.atKey (.int .i64 (k:Nat)) ndZ,[])/\SlN w P y.kids ao) /\
  (∀ k:Int,Maps.has D (.int .i64 k)=true->∃j y,k=(j:Nat)/\t j=some y)
theorem MpN.mono {w w':World}{P:Nat->Prop}{b m:Nat}{t:Nat->Option Ex}(h:MpN w P b m t)(e:w'.heap[b]?=w.heap[b]?)(hb:∀ k,P k->k<w.heap.size->w'.heap[k]?=w.heap[k]?)(hs:w.heap.size<=w'.heap.size):MpN w' P b m t:=by
 obtain⟨D,h1,h2,h3,h4⟩:=h;refine⟨D,tD h1 e,h2,fun k y hy=>?_,h4⟩;obtain⟨q1,ao,cap,q2,q3⟩:=h3 k y hy;exact⟨q1,ao,cap,q2,q3.mono hb hs (fun _ h _=>h)⟩
theorem MpN.monoQ {w w':World}{P Q:Nat->Prop}{b m:Nat}{t:Nat->Option Ex}(h:MpN w P b m t)(e:w'.heap[b]?=w.heap[b]?)(hb:∀ k,P k->k<w.heap.size->w'.heap[k]?=w.heap[k]?)(hs:w.heap.size<=w'.heap.size)(hq:∀ k,P k->k<w.heap.size->Q k):MpN w' Q b m t:=by
 obtain⟨D,h1,h2,h3,h4⟩:=h;refine⟨D,tD h1 e,h2,fun k y hy=>?_,h4⟩;obtain⟨q1,ao,cap,q2,q3⟩:=h3 k y hy;exact⟨q1,ao,cap,q2,q3.mono hb hs hq⟩
theorem MpN.made (w:World)(P:Nat->Prop):MpN (w.alloc (.map #[] 0)) P w.heap.size 0 (fun _=>none) :=
 ⟨.map [],World.ownsMap_made _ _ _ _,rfl,fun k y h=>by simp at h,fun k h=>by simp[Maps.has] at h⟩
theorem MpN.lt {w:World}{P:Nat->Prop}{b m:Nat}{t:Nat->Option Ex}(h:MpN w P b m t):b<w.heap.size:=by
 obtain⟨D,h1,-⟩:=h;exact h1.lt
theorem MpN.gone {t:Nat->Option Ex}{D:DataW Unit}(h5:∀ k:Int,Maps.has D (.int .i64 k)=true->∃j y,k=(j:Nat)/\t j=some y){k:Nat}(hn:t k=none):Maps.has D (.int .i64 (k:Nat))=false:=by
 cases hh:Maps.has D (.int .i64 (k:Nat)) with
 | false=>rfl
 | true =>
  obtain⟨j,y,e,hf⟩:=h5 _ hh;obtain rfl:k=j:=Int.ofNat.inj e;rw[hn] at hf;cases hf
theorem MpN.look {w:World}{P:Nat->Prop}{b m:Nat}{t:Nat->Option Ex}(h:MpN w P b m t){k:Nat}(hk:(Lit.int .i64 (k:Nat)).wf=true){y:Ex}(hf:t k=some y) :
  ∃ao cap,(Instr.lookup 195 (.map (some b)) (.int .i64 (k:Nat)) true).run Tryz.prog w=.ok (.tuple #[exN y ao cap,.bool true]) w/\SlN w P y.kids ao:=by
 obtain⟨D,h1,h2,h4,h5⟩:=h;obtain⟨c,ps,hr,hc⟩:=h1.look_ok ot Tryz.underlying195 (yW w) ki (keyOf_int_mk Tryz.underlying3 hk);obtain⟨q1,ao,cap,q2,q3⟩:=h4 k y hf;obtain⟨ao',cap',e1,e2⟩:=q7 q2 hc;rw[q1,e1] at hr;refine⟨ao',cap',hr,?_⟩;rcases e2 with e2|rfl
 ·rw[rq e2];exact SlN.nil _ _ _
 ·exact q3
theorem MpN.miss {w:World}{P:Nat->Prop}{b m:Nat}{t:Nat->Option Ex}(h:MpN w P b m t){k:Nat}(hk:(Lit.int .i64 (k:Nat)).wf=true)(hf:t k=none) :
  ∃x y s ao l cap,(Instr.lookup 195 (.map (some b)) (.int .i64 (k:Nat)) true).run Tryz.prog w=.ok (.tuple #[.agg #[.int .i64 x,.int .i64 y,.string s,.slice ao l cap],.bool false]) w:=by
 obtain⟨D,h1,h2,h4,h5⟩:=h;obtain⟨c,ps,hr,hc⟩:=h1.look_ok ot Tryz.underlying195 (yW w) ki (keyOf_int_mk Tryz.underlying3 hk);rw[MpN.gone h5 hf] at hr;unfold gP at hc;split at hc
 ·rename_i cs
  obtain⟨x,y,s,ao,l,cap,e,-⟩:=gh hc;have e2:cs=#[.int .i64 x,.int .i64 y,.string s,.slice ao l cap]:=Array.toList_inj.1 e;subst e2;exact⟨x,y,s,ao,l,cap,hr⟩
 ·cases hc
theorem MpN.put {w:World}{P:Nat->Prop}{b m:Nat}{t:Nat->Option Ex}(h:MpN w P b m t)(hP:¬P b)(k:Nat)(y:Ex)(ao:Option Addr)(cap:Nat)(hk:(Lit.int .i64 (k:Nat)).wf=true)(hm:m<=100000)(hf:t k=none)(S:SlN w P y.kids ao) :
  ∃w',(Instr.mapUpdate 195 (.map (some b)) (.int .i64 (k:Nat)) (exN y ao cap)).run Tryz.prog w=.ok () w'/\MpN w' P b (m+1) (fun i=>if i=k then some y else t i)/\w.mapTurned w' b:=by
 obtain⟨D,h1,h2,h4,h5⟩:=h;obtain⟨d,hd⟩:=vN y cap S;obtain⟨w',hr,ho,ht⟩:=h1.store (val:=exN y ao cap) (d:=d) (ps:=[]) ot Tryz.underlying195 (by unfold maxLen;omega) (keyOf_int_mk Tryz.underlying3 hk) hd;have hg:=ht.grown;have hsz:Maps.size (D.put (.int .i64 (k:Nat)) d)=m+1:=by
  rw[size_put (h1.tidy ot),h2,MpN.gone h5 hf];simp
 have ho':=vR ho;rw[hsz] at ho';have hSl:∀ {f:Fs}{ao:Option Addr},SlN w P f ao->SlN w' P f ao:=fun S=>S.mono (fun i hp hl=>hg.block i hl (fun e=>hP (by cases e;exact hp))) hg.size (fun _ h _=>h);refine⟨w',hr,⟨_,ho',hsz,fun j z hj=>?_,fun j hj=>?_⟩,ht⟩
 ·by_cases e:j=k
  ·subst e;simp only[if_true] at hj;injection hj with hj
   subst hj;rw[has_put_same h1.isMap (wM _),atKey_put_same h1.isMap (wM _)];exact⟨rfl,ao,cap,hd,hSl S⟩
  ·have hne:Lit.int .i64 (j:Nat)≠Lit.int .i64 (k:Nat):=fun h=>e (by simp at h;omega);simp only[e,if_false] at hj;rw[has_put_other hne,atKey_put_other hne];obtain⟨q1,ao',cap',q2,q3⟩:=h4 j z hj;exact⟨q1,ao',cap',q2,hSl q3⟩
 ·by_cases e:j=(k:Nat)
  ·exact⟨k,y,e,if_pos rfl⟩
  ·have hne:Lit.int .i64 j≠Lit.int .i64 (k:Nat):=fun h=>e (by simp at h;exact h);rw[has_put_other hne] at hj;obtain⟨j',z,rfl,hf'⟩:=h5 j hj;exact⟨j',z,rfl,(if_neg (fun h=>e (by rw[h]))).trans hf'⟩
end Go.Proofs.YtbjdkekhnajafaaGreatDoor
