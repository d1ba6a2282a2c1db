import Derived.Test.YtaihhnlfcndecaaGreatDoorLexR
set_option maxRecDepth 100000
set_option maxHeartbeats 8000000
namespace Go.Proofs.YtaihhnlfcndecaaGreatDoor
open Go.ChangeShapes Go.WideShapes Go.ChangeAt Go.RowKit
set_option linter.unusedVariables false
set_option linter.unusedSimpArgs false
theorem emp_beq {nm:List UInt8}{b:Bool}(h:(nm==[])=b):((⟨nm.toArray⟩:ByteArray)==⟨#[]⟩)=b:=by
 rw[<-h];cases nm with
 | nil=>rfl
 | cons x r =>
  show (List.toArray (x::r)==#[])=((x::r)==[])
  rw[Bool.eq_iff_iff];simp
theorem form_q (e:Ex)(ao:Option Addr)(cap:Nat)(w:World)(hnm:e.nm.length<=maxLen) :
  Calls Tryz.prog 150 #[exN e ao cap] w fun x w'=>x=.returned (.bool (docF e.k e.n e.nm e.kids.len))/\Below w.heap.size w w':=by
 obtain ⟨k0,n,nm,a,f⟩:=e;simp only at hnm;obtain ⟨W,hW⟩:∃W,W=docF k0 n nm f.len:=⟨_,rfl⟩;simp only;rw[<-hW];have HW:Hid (W=docF k0 n nm f.len):=hW;clear hW;have B0:Below w.heap.size w (w.alloc (.cells #[.int .i64 k0,.int .i64 n,stv nm,.slice ao f.len cap] 34)):=(Below.refl _ w).alloc (Nat.le_refl _) _;have E0:(w.alloc (.cells #[.int .i64 k0,.int .i64 n,stv nm,.slice ao f.len cap] 34)).heap[w.heap.size]?=some (.cells #[.int .i64 k0,.int .i64 n,stv nm,.slice ao f.len cap] 34):=heap_alloc_new w _;rw[exN_out];go_enter Tryz.func150,Tryz.ntmps150;go_upto_region 1 with fail;generalize w.alloc (.cells #[.int .i64 k0,.int .i64 n,stv nm,.slice ao f.len cap] 34)=w0 at *;obtain ⟨bx,hbx⟩:∃bx,bx=w.heap.size:=⟨_,rfl⟩;rw[<-hbx] at E0 B0 ⊢;have HB:Hid (bx=w.heap.size):=hbx;clear hbx;obtain ⟨p0,p1,p2,p3,pf⟩:=box4 E0;have FIN:∀ {b:Bool},W=b->Value.bool b=.bool W:=fun h=>by rw[h]
 by_cases hkk:(1<=k0/\k0<=3)\/(5<=k0/\k0<=26)
 case neg =>
  have HZ:Hid (W=false):=by
   show W=_
   rw[HW.out];cases hd:docF k0 n nm f.len with
   | false=>rfl
   | true=>have:=docF_kind hd;omega
  have b1:∀ c:Int,(1<=c/\c<=3)\/(5<=c/\c<=26)->(k0==c)=false:=fun c hc=>by simp;omega
  have c1:=b1 1 (by omega)
  have c2:=b1 2 (by omega)
  have c3:=b1 3 (by omega)
  have c5:=b1 5 (by omega)
  have c6:=b1 6 (by omega)
  have c7:=b1 7 (by omega)
  have c8:=b1 8 (by omega)
  have c9:=b1 9 (by omega)
  have c10:=b1 10 (by omega)
  have c11:=b1 11 (by omega)
  have c12:=b1 12 (by omega)
  have c13:=b1 13 (by omega)
  have c14:=b1 14 (by omega)
  have c15:=b1 15 (by omega)
  have c16:=b1 16 (by omega)
  have c17:=b1 17 (by omega)
  have c18:=b1 18 (by omega)
  have c19:=b1 19 (by omega)
  have c20:=b1 20 (by omega)
  have c21:=b1 21 (by omega)
  have c22:=b1 22 (by omega)
  have c23:=b1 23 (by omega)
  have c24:=b1 24 (by omega)
  have c25:=b1 25 (by omega)
  have c26:=b1 26 (by omega)
  clear HW E0 p1 p2 p3 hkk b1;go_wp2;go_ret;rw[HZ.out];exact ⟨rfl,by rw[<-HB.out];exact B0⟩
 case pos =>
 have hc:k0=1\/k0=2\/k0=3\/k0=5\/k0=6\/k0=7\/k0=8\/k0=9\/k0=10\/k0=11\/k0=12\/k0=13\/k0=14\/k0=15\/k0=16\/k0=17\/k0=18\/k0=19\/k0=20\/k0=21\/k0=22\/k0=23\/k0=24\/k0=25\/k0=26:=by omega
 clear hkk E0;rcases hc with rfl|rfl|rfl|rfl|rfl|rfl|rfl|rfl|rfl|rfl|rfl|rfl|rfl|rfl|rfl|rfl|rfl|rfl|rfl|rfl|rfl|rfl|rfl|rfl|rfl
 ·cases g0:(nm==[]) with
  | false =>
   have g0b:=emp_beq g0;have HZ:Hid (W=false):=by show W=_;rw[HW.out];simp[docF,g0]
   clear HW;go_wp2;go_ret;rw[HZ.out];exact ⟨rfl,by rw[<-HB.out];exact B0⟩
  | true =>
   have g0b:=emp_beq g0;cases g1:((f.len:Int)==0) with
   | false =>
    have g1b:(f.len==0)=false:=by have h:=g1;rw[Bool.eq_iff_iff] at h ⊢;simp at h ⊢;omega
    have HZ:Hid (W=false):=by show W=_;rw[HW.out];simp[docF,g0,g1b]
    clear HW;go_wp2;go_ret;rw[HZ.out];exact ⟨rfl,by rw[<-HB.out];exact B0⟩
   | true =>
    have g1b:(f.len==0)=true:=by have h:=g1;rw[Bool.eq_iff_iff] at h ⊢;simp at h ⊢;omega
    have HZ:Hid (W=true):=by show W=_;rw[HW.out];simp[docF,g0,g1b]
    clear HW;go_wp2;go_ret;rw[HZ.out];exact ⟨rfl,by rw[<-HB.out];exact B0⟩
 ·cases g0:(n==0) with
  | true =>
   cases g1:(nm==[]) with
   | false =>
    have g1b:=emp_beq g1;have HZ:Hid (W=false):=by show W=_;rw[HW.out];simp[docF,g0,g1]
    clear HW;go_wp2;go_ret;rw[HZ.out];exact ⟨rfl,by rw[<-HB.out];exact B0⟩
   | true =>
    have g1b:=emp_beq g1;have HZ:Hid (W=((f.len:Int)==0)):=by show W=_;rw[HW.out];rw[Bool.eq_iff_iff];simp[docF,g0,g1]
    clear HW;go_wp2;go_ret;rw[HZ.out];exact ⟨rfl,by rw[<-HB.out];exact B0⟩
  | false =>
   cases g2:(n==1) with
   | false =>
    have HZ:Hid (W=false):=by show W=_;rw[HW.out];simp[docF,g0,g2]
    clear HW;go_wp2;go_ret;rw[HZ.out];exact ⟨rfl,by rw[<-HB.out];exact B0⟩
   | true =>
    cases g1:(nm==[]) with
    | false =>
     have g1b:=emp_beq g1;have HZ:Hid (W=false):=by show W=_;rw[HW.out];simp[docF,g0,g1]
     clear HW;go_wp2;go_ret;rw[HZ.out];exact ⟨rfl,by rw[<-HB.out];exact B0⟩
    | true =>
     have g1b:=emp_beq g1;have HZ:Hid (W=((f.len:Int)==0)):=by show W=_;rw[HW.out];rw[Bool.eq_iff_iff];simp[docF,g0,g1,g2]
     clear HW;go_wp2;go_ret;rw[HZ.out];exact ⟨rfl,by rw[<-HB.out];exact B0⟩
 ·cases g0:decide (0<=n) with
  | false =>
   have g0b:=of_decide_eq_false g0;have HZ:Hid (W=false):=by show W=_;rw[HW.out];simp[docF,g0b]
   clear HW;go_wp2;go_ret;rw[HZ.out];exact ⟨rfl,by rw[<-HB.out];exact B0⟩
  | true =>
   have g0b:=of_decide_eq_true g0;cases g1:(nm==[]) with
   | false =>
    have g1b:=emp_beq g1;have HZ:Hid (W=false):=by show W=_;rw[HW.out];simp[docF,g0b,g1]
    clear HW;go_wp2;go_ret;rw[HZ.out];exact ⟨rfl,by rw[<-HB.out];exact B0⟩
   | true =>
    have g1b:=emp_beq g1;cases g2:((f.len:Int)==0) with
    | false =>
     have g2b:(f.len==0)=false:=by have h:=g2;rw[Bool.eq_iff_iff] at h ⊢;simp at h ⊢;omega
     have HZ:Hid (W=false):=by show W=_;rw[HW.out];simp[docF,g0b,g1,g2b]
     clear HW;go_wp2;go_ret;rw[HZ.out];exact ⟨rfl,by rw[<-HB.out];exact B0⟩
    | true =>
     have g2b:(f.len==0)=true:=by have h:=g2;rw[Bool.eq_iff_iff] at h ⊢;simp at h ⊢;omega
     have HZ:Hid (W=true):=by show W=_;rw[HW.out];simp[docF,g0b,g1,g2b]
     clear HW;go_wp2;go_ret;rw[HZ.out];exact ⟨rfl,by rw[<-HB.out];exact B0⟩
 ·cases g0:decide (0<=n) with
  | false =>
   have g0b:=of_decide_eq_false g0;have HZ:Hid (W=false):=by show W=_;rw[HW.out];simp[docF,g0b]
   clear HW;go_wp2;go_ret;rw[HZ.out];exact ⟨rfl,by rw[<-HB.out];exact B0⟩
  | true =>
   have g0b:=of_decide_eq_true g0;cases g1:(nm==[]) with
   | false =>
    have g1b:=emp_beq g1;have HZ:Hid (W=false):=by show W=_;rw[HW.out];simp[docF,g0b,g1]
    clear HW;go_wp2;go_ret;rw[HZ.out];exact ⟨rfl,by rw[<-HB.out];exact B0⟩
   | true =>
    have g1b:=emp_beq g1;cases g2:((f.len:Int)==0) with
    | false =>
     have g2b:(f.len==0)=false:=by have h:=g2;rw[Bool.eq_iff_iff] at h ⊢;simp at h ⊢;omega
     have HZ:Hid (W=false):=by show W=_;rw[HW.out];simp[docF,g0b,g1,g2b]
     clear HW;go_wp2;go_ret;rw[HZ.out];exact ⟨rfl,by rw[<-HB.out];exact B0⟩
    | true =>
     have g2b:(f.len==0)=true:=by have h:=g2;rw[Bool.eq_iff_iff] at h ⊢;simp at h ⊢;omega
     have HZ:Hid (W=true):=by show W=_;rw[HW.out];simp[docF,g0b,g1,g2b]
     clear HW;go_wp2;go_ret;rw[HZ.out];exact ⟨rfl,by rw[<-HB.out];exact B0⟩
 ·cases g0:(n==0) with
  | false =>
   have HZ:Hid (W=false):=by show W=_;rw[HW.out];simp[docF,g0]
   clear HW;go_wp2;go_ret;rw[HZ.out];exact ⟨rfl,by rw[<-HB.out];exact B0⟩
  | true =>
   cases g1:(nm==[]) with
   | false =>
    have g1b:=emp_beq g1;have HZ:Hid (W=false):=by show W=_;rw[HW.out];simp[docF,g0,g1]
    clear HW;go_wp2;go_ret;rw[HZ.out];exact ⟨rfl,by rw[<-HB.out];exact B0⟩
   | true =>
    have g1b:=emp_beq g1;cases g2:((f.len:Int)==1) with
    | false =>
     have g2b:(f.len==1)=false:=by have h:=g2;rw[Bool.eq_iff_iff] at h ⊢;simp at h ⊢;omega
     have HZ:Hid (W=false):=by show W=_;rw[HW.out];simp[docF,g0,g1,g2b]
     clear HW;go_wp2;go_ret;rw[HZ.out];exact ⟨rfl,by rw[<-HB.out];exact B0⟩
    | true =>
     have g2b:(f.len==1)=true:=by have h:=g2;rw[Bool.eq_iff_iff] at h ⊢;simp at h ⊢;omega
     have HZ:Hid (W=true):=by show W=_;rw[HW.out];simp[docF,g0,g1,g2b]
     clear HW;go_wp2;go_ret;rw[HZ.out];exact ⟨rfl,by rw[<-HB.out];exact B0⟩
 ·cases g0:(n==0) with
  | false =>
   have HZ:Hid (W=false):=by show W=_;rw[HW.out];simp[docF,g0]
   clear HW;go_wp2;go_ret;rw[HZ.out];exact ⟨rfl,by rw[<-HB.out];exact B0⟩
  | true =>
   cases g1:(nm==[]) with
   | false =>
    have g1b:=emp_beq g1;have HZ:Hid (W=false):=by show W=_;rw[HW.out];simp[docF,g0,g1]
    clear HW;go_wp2;go_ret;rw[HZ.out];exact ⟨rfl,by rw[<-HB.out];exact B0⟩
   | true =>
    have g1b:=emp_beq g1;cases g2:((f.len:Int)==1) with
    | false =>
     have g2b:(f.len==1)=false:=by have h:=g2;rw[Bool.eq_iff_iff] at h ⊢;simp at h ⊢;omega
     have HZ:Hid (W=false):=by show W=_;rw[HW.out];simp[docF,g0,g1,g2b]
     clear HW;go_wp2;go_ret;rw[HZ.out];exact ⟨rfl,by rw[<-HB.out];exact B0⟩
    | true =>
     have g2b:(f.len==1)=true:=by have h:=g2;rw[Bool.eq_iff_iff] at h ⊢;simp at h ⊢;omega
     have HZ:Hid (W=true):=by show W=_;rw[HW.out];simp[docF,g0,g1,g2b]
     clear HW;go_wp2;go_ret;rw[HZ.out];exact ⟨rfl,by rw[<-HB.out];exact B0⟩
 ·cases g0:(n==0) with
  | false =>
   have HZ:Hid (W=false):=by show W=_;rw[HW.out];simp[docF,g0]
   clear HW;go_wp2;go_ret;rw[HZ.out];exact ⟨rfl,by rw[<-HB.out];exact B0⟩
  | true =>
   cases g1:(nm==[]) with
   | false =>
    have g1b:=emp_beq g1;have HZ:Hid (W=false):=by show W=_;rw[HW.out];simp[docF,g0,g1]
    clear HW;go_wp2;go_ret;rw[HZ.out];exact ⟨rfl,by rw[<-HB.out];exact B0⟩
   | true =>
    have g1b:=emp_beq g1;cases g2:((f.len:Int)==2) with
    | false =>
     have g2b:(f.len==2)=false:=by have h:=g2;rw[Bool.eq_iff_iff] at h ⊢;simp at h ⊢;omega
     have HZ:Hid (W=false):=by show W=_;rw[HW.out];simp[docF,g0,g1,g2b]
     clear HW;go_wp2;go_ret;rw[HZ.out];exact ⟨rfl,by rw[<-HB.out];exact B0⟩
    | true =>
     have g2b:(f.len==2)=true:=by have h:=g2;rw[Bool.eq_iff_iff] at h ⊢;simp at h ⊢;omega
     have HZ:Hid (W=true):=by show W=_;rw[HW.out];simp[docF,g0,g1,g2b]
     clear HW;go_wp2;go_ret;rw[HZ.out];exact ⟨rfl,by rw[<-HB.out];exact B0⟩
 ·cases g0:(n==0) with
  | false =>
   have HZ:Hid (W=false):=by show W=_;rw[HW.out];simp[docF,g0]
   clear HW;go_wp2;go_ret;rw[HZ.out];exact ⟨rfl,by rw[<-HB.out];exact B0⟩
  | true =>
   cases g1:(nm==[]) with
   | false =>
    have g1b:=emp_beq g1;have HZ:Hid (W=false):=by show W=_;rw[HW.out];simp[docF,g0,g1]
    clear HW;go_wp2;go_ret;rw[HZ.out];exact ⟨rfl,by rw[<-HB.out];exact B0⟩
   | true =>
    have g1b:=emp_beq g1;cases g2:((f.len:Int)==2) with
    | false =>
     have g2b:(f.len==2)=false:=by have h:=g2;rw[Bool.eq_iff_iff] at h ⊢;simp at h ⊢;omega
     have HZ:Hid (W=false):=by show W=_;rw[HW.out];simp[docF,g0,g1,g2b]
     clear HW;go_wp2;go_ret;rw[HZ.out];exact ⟨rfl,by rw[<-HB.out];exact B0⟩
    | true =>
     have g2b:(f.len==2)=true:=by have h:=g2;rw[Bool.eq_iff_iff] at h ⊢;simp at h ⊢;omega
     have HZ:Hid (W=true):=by show W=_;rw[HW.out];simp[docF,g0,g1,g2b]
     clear HW;go_wp2;go_ret;rw[HZ.out];exact ⟨rfl,by rw[<-HB.out];exact B0⟩
 ·cases g0:(n==0) with
  | false =>
   have HZ:Hid (W=false):=by show W=_;rw[HW.out];simp[docF,g0]
   clear HW;go_wp2;go_ret;rw[HZ.out];exact ⟨rfl,by rw[<-HB.out];exact B0⟩
  | true =>
   cases g1:(nm==[]) with
   | false =>
    have g1b:=emp_beq g1;have HZ:Hid (W=false):=by show W=_;rw[HW.out];simp[docF,g0,g1]
    clear HW;go_wp2;go_ret;rw[HZ.out];exact ⟨rfl,by rw[<-HB.out];exact B0⟩
   | true =>
    have g1b:=emp_beq g1;cases g2:((f.len:Int)==2) with
    | false =>
     have g2b:(f.len==2)=false:=by have h:=g2;rw[Bool.eq_iff_iff] at h ⊢;simp at h ⊢;omega
     have HZ:Hid (W=false):=by show W=_;rw[HW.out];simp[docF,g0,g1,g2b]
     clear HW;go_wp2;go_ret;rw[HZ.out];exact ⟨rfl,by rw[<-HB.out];exact B0⟩
    | true =>
     have g2b:(f.len==2)=true:=by have h:=g2;rw[Bool.eq_iff_iff] at h ⊢;simp at h ⊢;omega
     have HZ:Hid (W=true):=by show W=_;rw[HW.out];simp[docF,g0,g1,g2b]
     clear HW;go_wp2;go_ret;rw[HZ.out];exact ⟨rfl,by rw[<-HB.out];exact B0⟩
 ·cases g0:(n==0) with
  | false =>
   have HZ:Hid (W=false):=by show W=_;rw[HW.out];simp[docF,g0]
   clear HW;go_wp2;go_ret;rw[HZ.out];exact ⟨rfl,by rw[<-HB.out];exact B0⟩
  | true =>
   cases g1:(nm==[]) with
   | false =>
    have g1b:=emp_beq g1;have HZ:Hid (W=false):=by show W=_;rw[HW.out];simp[docF,g0,g1]
    clear HW;go_wp2;go_ret;rw[HZ.out];exact ⟨rfl,by rw[<-HB.out];exact B0⟩
   | true =>
    have g1b:=emp_beq g1;cases g2:((f.len:Int)==2) with
    | false =>
     have g2b:(f.len==2)=false:=by have h:=g2;rw[Bool.eq_iff_iff] at h ⊢;simp at h ⊢;omega
     have HZ:Hid (W=false):=by show W=_;rw[HW.out];simp[docF,g0,g1,g2b]
     clear HW;go_wp2;go_ret;rw[HZ.out];exact ⟨rfl,by rw[<-HB.out];exact B0⟩
    | true =>
     have g2b:(f.len==2)=true:=by have h:=g2;rw[Bool.eq_iff_iff] at h ⊢;simp at h ⊢;omega
     have HZ:Hid (W=true):=by show W=_;rw[HW.out];simp[docF,g0,g1,g2b]
     clear HW;go_wp2;go_ret;rw[HZ.out];exact ⟨rfl,by rw[<-HB.out];exact B0⟩
 ·cases g0:(n==0) with
  | false =>
   have HZ:Hid (W=false):=by show W=_;rw[HW.out];simp[docF,g0]
   clear HW;go_wp2;go_ret;rw[HZ.out];exact ⟨rfl,by rw[<-HB.out];exact B0⟩
  | true =>
   cases g1:(nm==[]) with
   | false =>
    have g1b:=emp_beq g1;have HZ:Hid (W=false):=by show W=_;rw[HW.out];simp[docF,g0,g1]
    clear HW;go_wp2;go_ret;rw[HZ.out];exact ⟨rfl,by rw[<-HB.out];exact B0⟩
   | true =>
    have g1b:=emp_beq g1;cases g2:((f.len:Int)==2) with
    | false =>
     have g2b:(f.len==2)=false:=by have h:=g2;rw[Bool.eq_iff_iff] at h ⊢;simp at h ⊢;omega
     have HZ:Hid (W=false):=by show W=_;rw[HW.out];simp[docF,g0,g1,g2b]
     clear HW;go_wp2;go_ret;rw[HZ.out];exact ⟨rfl,by rw[<-HB.out];exact B0⟩
    | true =>
     have g2b:(f.len==2)=true:=by have h:=g2;rw[Bool.eq_iff_iff] at h ⊢;simp at h ⊢;omega
     have HZ:Hid (W=true):=by show W=_;rw[HW.out];simp[docF,g0,g1,g2b]
     clear HW;go_wp2;go_ret;rw[HZ.out];exact ⟨rfl,by rw[<-HB.out];exact B0⟩
 ·cases g0:(n==0) with
  | false =>
   have HZ:Hid (W=false):=by show W=_;rw[HW.out];simp[docF,g0]
   clear HW;go_wp2;go_ret;rw[HZ.out];exact ⟨rfl,by rw[<-HB.out];exact B0⟩
  | true =>
   cases g1:(nm==[]) with
   | false =>
    have g1b:=emp_beq g1;have HZ:Hid (W=false):=by show W=_;rw[HW.out];simp[docF,g0,g1]
    clear HW;go_wp2;go_ret;rw[HZ.out];exact ⟨rfl,by rw[<-HB.out];exact B0⟩
   | true =>
    have g1b:=emp_beq g1;cases g2:((f.len:Int)==2) with
    | false =>
     have g2b:(f.len==2)=false:=by have h:=g2;rw[Bool.eq_iff_iff] at h ⊢;simp at h ⊢;omega
     have HZ:Hid (W=false):=by show W=_;rw[HW.out];simp[docF,g0,g1,g2b]
     clear HW;go_wp2;go_ret;rw[HZ.out];exact ⟨rfl,by rw[<-HB.out];exact B0⟩
    | true =>
     have g2b:(f.len==2)=true:=by have h:=g2;rw[Bool.eq_iff_iff] at h ⊢;simp at h ⊢;omega
     have HZ:Hid (W=true):=by show W=_;rw[HW.out];simp[docF,g0,g1,g2b]
     clear HW;go_wp2;go_ret;rw[HZ.out];exact ⟨rfl,by rw[<-HB.out];exact B0⟩
 ·cases g0:(n==0) with
  | false =>
   have HZ:Hid (W=false):=by show W=_;rw[HW.out];simp[docF,g0]
   clear HW;go_wp2;go_ret;rw[HZ.out];exact ⟨rfl,by rw[<-HB.out];exact B0⟩
  | true =>
   cases g1:(nm==[]) with
   | false =>
    have g1b:=emp_beq g1;have HZ:Hid (W=false):=by show W=_;rw[HW.out];simp[docF,g0,g1]
    clear HW;go_wp2;go_ret;rw[HZ.out];exact ⟨rfl,by rw[<-HB.out];exact B0⟩
   | true =>
    have g1b:=emp_beq g1;cases g2:((f.len:Int)==2) with
    | false =>
     have g2b:(f.len==2)=false:=by have h:=g2;rw[Bool.eq_iff_iff] at h ⊢;simp at h ⊢;omega
     have HZ:Hid (W=false):=by show W=_;rw[HW.out];simp[docF,g0,g1,g2b]
     clear HW;go_wp2;go_ret;rw[HZ.out];exact ⟨rfl,by rw[<-HB.out];exact B0⟩
    | true =>
     have g2b:(f.len==2)=true:=by have h:=g2;rw[Bool.eq_iff_iff] at h ⊢;simp at h ⊢;omega
     have HZ:Hid (W=true):=by show W=_;rw[HW.out];simp[docF,g0,g1,g2b]
     clear HW;go_wp2;go_ret;rw[HZ.out];exact ⟨rfl,by rw[<-HB.out];exact B0⟩
 ·cases g0:(n==0) with
  | false =>
   have HZ:Hid (W=false):=by show W=_;rw[HW.out];simp[docF,g0]
   clear HW;go_wp2;go_ret;rw[HZ.out];exact ⟨rfl,by rw[<-HB.out];exact B0⟩
  | true =>
   cases g1:(nm==[]) with
   | false =>
    have g1b:=emp_beq g1;have HZ:Hid (W=false):=by show W=_;rw[HW.out];simp[docF,g0,g1]
    clear HW;go_wp2;go_ret;rw[HZ.out];exact ⟨rfl,by rw[<-HB.out];exact B0⟩
   | true =>
    have g1b:=emp_beq g1;cases g2:((f.len:Int)==2) with
    | false =>
     have g2b:(f.len==2)=false:=by have h:=g2;rw[Bool.eq_iff_iff] at h ⊢;simp at h ⊢;omega
     have HZ:Hid (W=false):=by show W=_;rw[HW.out];simp[docF,g0,g1,g2b]
     clear HW;go_wp2;go_ret;rw[HZ.out];exact ⟨rfl,by rw[<-HB.out];exact B0⟩
    | true =>
     have g2b:(f.len==2)=true:=by have h:=g2;rw[Bool.eq_iff_iff] at h ⊢;simp at h ⊢;omega
     have HZ:Hid (W=true):=by show W=_;rw[HW.out];simp[docF,g0,g1,g2b]
     clear HW;go_wp2;go_ret;rw[HZ.out];exact ⟨rfl,by rw[<-HB.out];exact B0⟩
 ·cases g0:(n==0) with
  | false =>
   have HZ:Hid (W=false):=by show W=_;rw[HW.out];simp[docF,g0]
   clear HW;go_wp2;go_ret;rw[HZ.out];exact ⟨rfl,by rw[<-HB.out];exact B0⟩
  | true =>
   cases g1:(nm==[]) with
   | false =>
    have g1b:=emp_beq g1;have HZ:Hid (W=false):=by show W=_;rw[HW.out];simp[docF,g0,g1]
    clear HW;go_wp2;go_ret;rw[HZ.out];exact ⟨rfl,by rw[<-HB.out];exact B0⟩
   | true =>
    have g1b:=emp_beq g1;cases g2:((f.len:Int)==2) with
    | false =>
     have g2b:(f.len==2)=false:=by have h:=g2;rw[Bool.eq_iff_iff] at h ⊢;simp at h ⊢;omega
     have HZ:Hid (W=false):=by show W=_;rw[HW.out];simp[docF,g0,g1,g2b]
     clear HW;go_wp2;go_ret;rw[HZ.out];exact ⟨rfl,by rw[<-HB.out];exact B0⟩
    | true =>
     have g2b:(f.len==2)=true:=by have h:=g2;rw[Bool.eq_iff_iff] at h ⊢;simp at h ⊢;omega
     have HZ:Hid (W=true):=by show W=_;rw[HW.out];simp[docF,g0,g1,g2b]
     clear HW;go_wp2;go_ret;rw[HZ.out];exact ⟨rfl,by rw[<-HB.out];exact B0⟩
 ·cases g0:(n==0) with
  | false =>
   have HZ:Hid (W=false):=by show W=_;rw[HW.out];simp[docF,g0]
   clear HW;go_wp2;go_ret;rw[HZ.out];exact ⟨rfl,by rw[<-HB.out];exact B0⟩
  | true =>
   cases g1:(nm==[]) with
   | false =>
    have g1b:=emp_beq g1;have HZ:Hid (W=false):=by show W=_;rw[HW.out];simp[docF,g0,g1]
    clear HW;go_wp2;go_ret;rw[HZ.out];exact ⟨rfl,by rw[<-HB.out];exact B0⟩
   | true =>
    have g1b:=emp_beq g1;cases g2:((f.len:Int)==2) with
    | false =>
     have g2b:(f.len==2)=false:=by have h:=g2;rw[Bool.eq_iff_iff] at h ⊢;simp at h ⊢;omega
     have HZ:Hid (W=false):=by show W=_;rw[HW.out];simp[docF,g0,g1,g2b]
     clear HW;go_wp2;go_ret;rw[HZ.out];exact ⟨rfl,by rw[<-HB.out];exact B0⟩
    | true =>
     have g2b:(f.len==2)=true:=by have h:=g2;rw[Bool.eq_iff_iff] at h ⊢;simp at h ⊢;omega
     have HZ:Hid (W=true):=by show W=_;rw[HW.out];simp[docF,g0,g1,g2b]
     clear HW;go_wp2;go_ret;rw[HZ.out];exact ⟨rfl,by rw[<-HB.out];exact B0⟩
 ·cases g0:(n==0) with
  | false =>
   have HZ:Hid (W=false):=by show W=_;rw[HW.out];simp[docF,g0]
   clear HW;go_wp2;go_ret;rw[HZ.out];exact ⟨rfl,by rw[<-HB.out];exact B0⟩
  | true =>
   cases g1:(nm==[]) with
   | false =>
    have g1b:=emp_beq g1;have HZ:Hid (W=false):=by show W=_;rw[HW.out];simp[docF,g0,g1]
    clear HW;go_wp2;go_ret;rw[HZ.out];exact ⟨rfl,by rw[<-HB.out];exact B0⟩
   | true =>
    have g1b:=emp_beq g1;cases g2:((f.len:Int)==2) with
    | false =>
     have g2b:(f.len==2)=false:=by have h:=g2;rw[Bool.eq_iff_iff] at h ⊢;simp at h ⊢;omega
     have HZ:Hid (W=false):=by show W=_;rw[HW.out];simp[docF,g0,g1,g2b]
     clear HW;go_wp2;go_ret;rw[HZ.out];exact ⟨rfl,by rw[<-HB.out];exact B0⟩
    | true =>
     have g2b:(f.len==2)=true:=by have h:=g2;rw[Bool.eq_iff_iff] at h ⊢;simp at h ⊢;omega
     have HZ:Hid (W=true):=by show W=_;rw[HW.out];simp[docF,g0,g1,g2b]
     clear HW;go_wp2;go_ret;rw[HZ.out];exact ⟨rfl,by rw[<-HB.out];exact B0⟩
 ·cases g0:(n==0) with
  | false =>
   have HZ:Hid (W=false):=by show W=_;rw[HW.out];simp[docF,g0]
   clear HW;go_wp2;go_ret;rw[HZ.out];exact ⟨rfl,by rw[<-HB.out];exact B0⟩
  | true =>
   cases g1:(nm==[]) with
   | false =>
    have g1b:=emp_beq g1;have HZ:Hid (W=false):=by show W=_;rw[HW.out];simp[docF,g0,g1]
    clear HW;go_wp2;go_ret;rw[HZ.out];exact ⟨rfl,by rw[<-HB.out];exact B0⟩
   | true =>
    have g1b:=emp_beq g1;cases g2:((f.len:Int)==3) with
    | false =>
     have g2b:(f.len==3)=false:=by have h:=g2;rw[Bool.eq_iff_iff] at h ⊢;simp at h ⊢;omega
     have HZ:Hid (W=false):=by show W=_;rw[HW.out];simp[docF,g0,g1,g2b]
     clear HW;go_wp2;go_ret;rw[HZ.out];exact ⟨rfl,by rw[<-HB.out];exact B0⟩
    | true =>
     have g2b:(f.len==3)=true:=by have h:=g2;rw[Bool.eq_iff_iff] at h ⊢;simp at h ⊢;omega
     have HZ:Hid (W=true):=by show W=_;rw[HW.out];simp[docF,g0,g1,g2b]
     clear HW;go_wp2;go_ret;rw[HZ.out];exact ⟨rfl,by rw[<-HB.out];exact B0⟩
 ·cases g0:(nm==[]) with
  | false =>
   have g0b:=emp_beq g0;have HZ:Hid (W=false):=by show W=_;rw[HW.out];simp[docF,g0]
   clear HW;go_wp2;go_ret;rw[HZ.out];exact ⟨rfl,by rw[<-HB.out];exact B0⟩
  | true =>
   have g0b:=emp_beq g0;have HC:Hid (W=((decide (1<=n)&&decide (n<=3)&&f.len==2)||(decide (4<=n)&&decide (n<=10)&&f.len==1))):=by show W=_;rw[HW.out];simp[docF,g0]
   clear HW;by_cases h1:1<=n/\n<=3
   ·obtain ⟨h1,h3⟩:=h1;cases g1:((f.len:Int)==2) with
    | true =>
     have HZ:Hid (W=true):=by show W=_;rw[HC.out];simp at g1 ⊢;omega
     clear HC;go_wp2;go_ret;rw[HZ.out];exact ⟨rfl,by rw[<-HB.out];exact B0⟩
    | false =>
     have h4:¬(4:Int)<=n:=by omega
     have HZ:Hid (W=false):=by show W=_;rw[HC.out];simp at g1 ⊢;omega
     clear HC;go_wp2;go_ret;rw[HZ.out];exact ⟨rfl,by rw[<-HB.out];exact B0⟩
   ·by_cases h2:4<=n/\n<=10
    ·obtain ⟨h4,h5⟩:=h2;have h6:¬n<=3:=by omega
     have h7:(1:Int)<=n:=by omega
     have HZ:Hid (W=((f.len:Int)==1)):=by show W=_;rw[HC.out,Bool.eq_iff_iff];simp;omega
     clear HC h1;go_wp2;go_ret;rw[HZ.out];exact ⟨rfl,by rw[<-HB.out];exact B0⟩
    ·have HZ:Hid (W=false):=by show W=_;rw[HC.out];simp;omega
     clear HC;by_cases h3:1<=n
     ·have h4:¬n<=3:=by omega
      have h5:(4:Int)<=n:=by omega
      have h6:¬n<=10:=by omega
      clear h1 h2;go_wp2;go_ret;rw[HZ.out];exact ⟨rfl,by rw[<-HB.out];exact B0⟩
     ·have h5:¬(4:Int)<=n:=by omega
      clear h1 h2;go_wp2;go_ret;rw[HZ.out];exact ⟨rfl,by rw[<-HB.out];exact B0⟩
 ·cases g0:decide (1<=n) with
  | false =>
   have g0b:=of_decide_eq_false g0;have HZ:Hid (W=false):=by show W=_;rw[HW.out];simp[docF,g0b]
   clear HW;go_wp2;go_ret;rw[HZ.out];exact ⟨rfl,by rw[<-HB.out];exact B0⟩
  | true =>
   have g0b:=of_decide_eq_true g0;cases g1:decide (n<=6) with
   | false =>
    have g1b:=of_decide_eq_false g1;have HZ:Hid (W=false):=by show W=_;rw[HW.out];simp[docF,g0b,g1b]
    clear HW;go_wp2;go_ret;rw[HZ.out];exact ⟨rfl,by rw[<-HB.out];exact B0⟩
   | true =>
    have g1b:=of_decide_eq_true g1;cases g2:(nm==[]) with
    | false =>
     have g2b:=emp_beq g2;have HZ:Hid (W=false):=by show W=_;rw[HW.out];simp[docF,g0b,g1b,g2]
     clear HW;go_wp2;go_ret;rw[HZ.out];exact ⟨rfl,by rw[<-HB.out];exact B0⟩
    | true =>
     have g2b:=emp_beq g2;cases g3:((f.len:Int)==2) with
     | false =>
      have g3b:(f.len==2)=false:=by have h:=g3;rw[Bool.eq_iff_iff] at h ⊢;simp at h ⊢;omega
      have HZ:Hid (W=false):=by show W=_;rw[HW.out];simp[docF,g0b,g1b,g2,g3b]
      clear HW;go_wp2;go_ret;rw[HZ.out];exact ⟨rfl,by rw[<-HB.out];exact B0⟩
     | true =>
      have g3b:(f.len==2)=true:=by have h:=g3;rw[Bool.eq_iff_iff] at h ⊢;simp at h ⊢;omega
      have HZ:Hid (W=true):=by show W=_;rw[HW.out];simp[docF,g0b,g1b,g2,g3b]
      clear HW;go_wp2;go_ret;rw[HZ.out];exact ⟨rfl,by rw[<-HB.out];exact B0⟩
 ·cases g0:(n==0) with
  | false =>
   have HZ:Hid (W=false):=by show W=_;rw[HW.out];simp[docF,g0]
   clear HW;go_wp2;go_ret;rw[HZ.out];exact ⟨rfl,by rw[<-HB.out];exact B0⟩
  | true =>
   cases g1:(nm==[]) with
   | false =>
    have g1b:=emp_beq g1;have HZ:Hid (W=false):=by show W=_;rw[HW.out];simp[docF,g0,g1]
    clear HW;go_wp2;go_ret;rw[HZ.out];exact ⟨rfl,by rw[<-HB.out];exact B0⟩
   | true =>
    have g1b:=emp_beq g1;cases g2:((f.len:Int)==0) with
    | false =>
     have g2b:(f.len==0)=false:=by have h:=g2;rw[Bool.eq_iff_iff] at h ⊢;simp at h ⊢;omega
     have HZ:Hid (W=false):=by show W=_;rw[HW.out];simp[docF,g0,g1,g2b]
     clear HW;go_wp2;go_ret;rw[HZ.out];exact ⟨rfl,by rw[<-HB.out];exact B0⟩
    | true =>
     have g2b:(f.len==0)=true:=by have h:=g2;rw[Bool.eq_iff_iff] at h ⊢;simp at h ⊢;omega
     have HZ:Hid (W=true):=by show W=_;rw[HW.out];simp[docF,g0,g1,g2b]
     clear HW;go_wp2;go_ret;rw[HZ.out];exact ⟨rfl,by rw[<-HB.out];exact B0⟩
 ·cases g0:(n==0) with
  | false =>
   have HZ:Hid (W=false):=by show W=_;rw[HW.out];simp[docF,g0]
   clear HW;go_wp2;go_ret;rw[HZ.out];exact ⟨rfl,by rw[<-HB.out];exact B0⟩
  | true =>
   cases g1:((f.len:Int)==0) with
   | false =>
    have g1b:(f.len==0)=false:=by have h:=g1;rw[Bool.eq_iff_iff] at h ⊢;simp at h ⊢;omega
    have HZ:Hid (W=false):=by show W=_;rw[HW.out];simp[docF,g0,g1b]
    clear HW;go_wp2;go_ret;rw[HZ.out];exact ⟨rfl,by rw[<-HB.out];exact B0⟩
   | true =>
    have g1b:(f.len==0)=true:=by have h:=g1;rw[Bool.eq_iff_iff] at h ⊢;simp at h ⊢;omega
    have HZ:Hid (W=nameB nm):=by show W=_;rw[HW.out];simp[docF,g0,g1b]
    have c1:=fun w=>name_r ⟨nm.toArray⟩ w (by show nm.toArray.size<=maxLen;simpa using hnm)
    clear HW;go_wp2_with (go_at_call 92;refine (c1 _).mono ?_;rintro x w1 ⟨rfl,b1⟩);have B1:=B0.trans (b1.mono (by have:=HB.out;have:=B0.size;omega))
    clear c1 p0 p1 p2 p3 pf;go_wp2;go_ret;rw[HZ.out];exact ⟨rfl,by rw[<-HB.out];exact B1⟩
 ·cases g0:(n==0) with
  | false =>
   have HZ:Hid (W=false):=by show W=_;rw[HW.out];simp[docF,g0]
   clear HW;go_wp2;go_ret;rw[HZ.out];exact ⟨rfl,by rw[<-HB.out];exact B0⟩
  | true =>
   cases g1:(nm==[]) with
   | false =>
    have g1b:=emp_beq g1;have HZ:Hid (W=false):=by show W=_;rw[HW.out];simp[docF,g0,g1]
    clear HW;go_wp2;go_ret;rw[HZ.out];exact ⟨rfl,by rw[<-HB.out];exact B0⟩
   | true =>
    have g1b:=emp_beq g1;cases g2:((f.len:Int)==1) with
    | false =>
     have g2b:(f.len==1)=false:=by have h:=g2;rw[Bool.eq_iff_iff] at h ⊢;simp at h ⊢;omega
     have HZ:Hid (W=false):=by show W=_;rw[HW.out];simp[docF,g0,g1,g2b]
     clear HW;go_wp2;go_ret;rw[HZ.out];exact ⟨rfl,by rw[<-HB.out];exact B0⟩
    | true =>
     have g2b:(f.len==1)=true:=by have h:=g2;rw[Bool.eq_iff_iff] at h ⊢;simp at h ⊢;omega
     have HZ:Hid (W=true):=by show W=_;rw[HW.out];simp[docF,g0,g1,g2b]
     clear HW;go_wp2;go_ret;rw[HZ.out];exact ⟨rfl,by rw[<-HB.out];exact B0⟩
 ·cases g0:(n==0) with
  | false =>
   have HZ:Hid (W=false):=by show W=_;rw[HW.out];simp[docF,g0]
   clear HW;go_wp2;go_ret;rw[HZ.out];exact ⟨rfl,by rw[<-HB.out];exact B0⟩
  | true =>
   cases g1:(nm==[]) with
   | false =>
    have g1b:=emp_beq g1;have HZ:Hid (W=false):=by show W=_;rw[HW.out];simp[docF,g0,g1]
    clear HW;go_wp2;go_ret;rw[HZ.out];exact ⟨rfl,by rw[<-HB.out];exact B0⟩
   | true =>
    have g1b:=emp_beq g1;have HZ:Hid (W=true):=by show W=_;rw[HW.out];simp[docF,g0,g1]
    clear HW;go_wp2;go_ret;rw[HZ.out];exact ⟨rfl,by rw[<-HB.out];exact B0⟩
 ·cases g0:(nm==[]) with
  | false =>
   have g0b:=emp_beq g0;have HZ:Hid (W=false):=by show W=_;rw[HW.out];simp[docF,g0]
   clear HW;go_wp2;go_ret;rw[HZ.out];exact ⟨rfl,by rw[<-HB.out];exact B0⟩
  | true =>
   have g0b:=emp_beq g0;cases g1:((f.len:Int)==1) with
   | false =>
    have g1b:(f.len==1)=false:=by have h:=g1;rw[Bool.eq_iff_iff] at h ⊢;simp at h ⊢;omega
    have HZ:Hid (W=false):=by show W=_;rw[HW.out];simp[docF,g0,g1b]
    clear HW;go_wp2;go_ret;rw[HZ.out];exact ⟨rfl,by rw[<-HB.out];exact B0⟩
   | true =>
    have g1b:(f.len==1)=true:=by have h:=g1;rw[Bool.eq_iff_iff] at h ⊢;simp at h ⊢;omega
    have HZ:Hid (W=true):=by show W=_;rw[HW.out];simp[docF,g0,g1b]
    clear HW;go_wp2;go_ret;rw[HZ.out];exact ⟨rfl,by rw[<-HB.out];exact B0⟩
end Go.Proofs.YtaihhnlfcndecaaGreatDoor
namespace Go.Proofs.YtaihhnlfcndecaaGreatDoor
set_option linter.unusedVariables false
set_option linter.unusedSimpArgs false
def inI (x:Int):Bool:=decide (-9223372036854775808<=x)&&decide (x<=9223372036854775807)
def okI (x:Int):Option Int:=if inI x then some x else none
def trI (b:Bool):Int:=if b then 1 else 0
def rckP (k a b:Int):Option Int :=
 if k=6 then okI (0 - a) else if k=7 then some (trI (a==0)) else if k=8 then okI (a+b) else if k=9 then okI (a - b) else if k=10 then okI (a*b)
 else if k=11 then (if b=0 then none else okI (a.tdiv b)) else if k=12 then (if b=0 then none else some (a.tmod b))
 else if k=13 then some (trI (a==b)) else if k=14 then some (trI (a != b)) else if k=15 then some (trI (decide (a<b))) else some (trI (decide (a<=b)))
def numE (n:Int):Ex:=⟨1,n,[],0,.nil⟩
def truE (b:Bool):Ex:=⟨2,trI b,[],0,.nil⟩
def isE (e:Ex)(k n:Int):Bool:=e.k==k&&e.n==n
def cnE (e:Ex):Bool:=e.k==1||e.k==2
def Ex.kid (e:Ex)(i:Nat):Ex :=
 match i,e.kids with
 | 0,f=>f.head
 | 1,⟨some ⟨_,_,_,_,_,r⟩⟩=>r.head
 | 2,⟨some ⟨_,_,_,_,_,⟨some ⟨_,_,_,_,_,r⟩⟩⟩⟩=>r.head
 | _,_=>noEx
end Go.Proofs.YtaihhnlfcndecaaGreatDoor
namespace Go.Proofs.YtaihhnlfcndecaaGreatDoor
open Go.ChangeShapes Go.WideShapes Go.ChangeAt Go.RowKit
set_option linter.unusedVariables false
set_option linter.unusedSimpArgs false
def In64 (x:Int):Prop:=-9223372036854775808<=x/\x<=9223372036854775807
def ovV (x:Int):Value:=.tuple #[.int .i64 (if inI x then x else 0),.int .i64 (if inI x then 0 else 1)]
theorem inI_pos {x:Int}(h:In64 x):inI x=true:=by unfold inI;simp;exact h
theorem inI_neg {x:Int}(h:¬In64 x):inI x=false:=by
 unfold In64 at h;unfold inI;by_cases h1:-9223372036854775808<=x
 ·rw[decide_eq_true h1,Bool.true_and];exact decide_eq_false (by omega)
 ·rw[decide_eq_false h1,Bool.false_and]
theorem truth_c (b:Bool)(w:World):Calls Tryz.prog 200 #[.bool b] w fun e w'=>e=.returned (.int .i64 (trI b))/\w'=w:=by
 cases b with
 | true =>
  go_enter Tryz.func200,Tryz.ntmps200;go_wp2;go_ret;exact ⟨rfl,rfl⟩
 | false =>
  go_enter Tryz.func200,Tryz.ntmps200;go_wp2;go_ret;exact ⟨rfl,rfl⟩
theorem plus_c {a b:Int}(ha:In64 a)(hb:In64 b)(w:World):Calls Tryz.prog 201 #[.int .i64 a,.int .i64 b] w fun e w'=>e=.returned (ovV (a+b))/\w'=w:=by
 obtain ⟨ha1,ha2⟩:=ha;obtain ⟨hb1,hb2⟩:=hb;unfold ovV;by_cases h:In64 (a+b)
 ·rw[inI_pos h];obtain ⟨h1,h2⟩:=h;simp only[if_true];by_cases h0:0<b
  ·have hw:a<a+b:=by omega
   go_enter Tryz.func201,Tryz.ntmps201;go_wp2;exact bodyPost_ret (v:=.tuple #[.int .i64 (a+b),.int .i64 0]) (by simp[results,Tryz.results201,go_sem]) rfl ⟨rfl,rfl⟩
  ·have hw:¬a<a+b:=by omega
   go_enter Tryz.func201,Tryz.ntmps201;go_wp2;exact bodyPost_ret (v:=.tuple #[.int .i64 (a+b),.int .i64 0]) (by simp[results,Tryz.results201,go_sem]) rfl ⟨rfl,rfl⟩
 ·rw[inI_neg h];unfold In64 at h;simp only[Bool.false_eq_true,if_false];by_cases h0:0<b
  ·have hw:¬a<wrap64 (a+b):=by unfold wrap64;omega
   clear h;go_enter Tryz.func201,Tryz.ntmps201;go_wp2;exact bodyPost_ret (v:=.tuple #[.int .i64 0,.int .i64 1]) (by simp[results,Tryz.results201,go_sem]) rfl ⟨rfl,rfl⟩
  ·have hw:a<wrap64 (a+b):=by unfold wrap64;omega
   clear h;go_enter Tryz.func201,Tryz.ntmps201;go_wp2;exact bodyPost_ret (v:=.tuple #[.int .i64 0,.int .i64 1]) (by simp[results,Tryz.results201,go_sem]) rfl ⟨rfl,rfl⟩
theorem minus_c {a b:Int}(ha:In64 a)(hb:In64 b)(w:World):Calls Tryz.prog 199 #[.int .i64 a,.int .i64 b] w fun e w'=>e=.returned (ovV (a - b))/\w'=w:=by
 obtain ⟨ha1,ha2⟩:=ha;obtain ⟨hb1,hb2⟩:=hb;unfold ovV;by_cases h:In64 (a - b)
 ·rw[inI_pos h];obtain ⟨h1,h2⟩:=h;simp only[if_true];by_cases h0:0<b
  ·have hw:a - b<a:=by omega
   go_enter Tryz.func199,Tryz.ntmps199;go_wp2;exact bodyPost_ret (v:=.tuple #[.int .i64 (a - b),.int .i64 0]) (by simp[results,Tryz.results199,go_sem]) rfl ⟨rfl,rfl⟩
  ·have hw:¬a - b<a:=by omega
   go_enter Tryz.func199,Tryz.ntmps199;go_wp2;exact bodyPost_ret (v:=.tuple #[.int .i64 (a - b),.int .i64 0]) (by simp[results,Tryz.results199,go_sem]) rfl ⟨rfl,rfl⟩
 ·rw[inI_neg h];unfold In64 at h;simp only[Bool.false_eq_true,if_false];by_cases h0:0<b
  ·have hw:¬wrap64 (a - b)<a:=by unfold wrap64;omega
   clear h;go_enter Tryz.func199,Tryz.ntmps199;go_wp2;exact bodyPost_ret (v:=.tuple #[.int .i64 0,.int .i64 1]) (by simp[results,Tryz.results199,go_sem]) rfl ⟨rfl,rfl⟩
  ·have hw:wrap64 (a - b)<a:=by unfold wrap64;omega
   clear h;go_enter Tryz.func199,Tryz.ntmps199;go_wp2;exact bodyPost_ret (v:=.tuple #[.int .i64 0,.int .i64 1]) (by simp[results,Tryz.results199,go_sem]) rfl ⟨rfl,rfl⟩
def quV (a b:Int):Value:=if b=0 then .tuple #[.int .i64 0,.int .i64 4] else ovV (a.tdiv b)
def reV (a b:Int):Value:=if b=0 then .tuple #[.int .i64 0,.int .i64 4] else .tuple #[.int .i64 (a.tmod b),.int .i64 0]
theorem tdiv_in {a b:Int}(ha:In64 a)(hb:b≠0)(h:¬(a=-9223372036854775808/\b=-1)):In64 (a.tdiv b):=by
 have h1:(a.tdiv b).natAbs<=a.natAbs:=by rw[Int.natAbs_tdiv];exact Nat.div_le_self _ _
 obtain ⟨ha1,ha2⟩:=ha;by_cases h2:a=-9223372036854775808
 ·subst h2;have hb1:b≠-1:=fun h3=>h ⟨rfl,h3⟩
  by_cases h3:b=1
  ·subst h3;exact ⟨by decide,by decide⟩
  ·have h4:2<=b.natAbs:=by omega
   have h5:((-9223372036854775808:Int).tdiv b).natAbs<=4611686018427387904:=by
    rw[Int.natAbs_tdiv];exact Nat.le_trans (Nat.div_le_div_left h4 (by decide)) (by decide)
   unfold In64;omega
 ·unfold In64;omega
theorem quotient_c {a b:Int}(ha:In64 a)(hb:In64 b)(w:World):Calls Tryz.prog 203 #[.int .i64 a,.int .i64 b] w fun e w'=>e=.returned (quV a b)/\w'=w:=by
 unfold quV;by_cases h0:b=0
 ·rw[if_pos h0];subst h0;go_enter Tryz.func203,Tryz.ntmps203;go_wp2;exact bodyPost_ret (v:=.tuple #[.int .i64 0,.int .i64 4]) (by simp[results,Tryz.results203,go_sem]) rfl ⟨rfl,rfl⟩
 ·rw[if_neg h0];by_cases h1:a=-9223372036854775808/\b=-1
  ·obtain ⟨rfl,rfl⟩:=h1;go_enter Tryz.func203,Tryz.ntmps203;go_wp2;exact bodyPost_ret (v:=.tuple #[.int .i64 0,.int .i64 1]) (by simp[results,Tryz.results203,go_sem]) rfl ⟨rfl,rfl⟩
  ·have hi:=tdiv_in ha h0 h1;have hb0:(b==0)=false:=by simpa using h0
   unfold ovV;rw[inI_pos hi];simp only[if_true];obtain ⟨hi1,hi2⟩:=hi;by_cases h2:a=-9223372036854775808
   ·have ha0:(a==-9223372036854775808)=true:=by simpa using h2
    have hb1:(b==-1)=false:=by
     have:b≠-1:=fun h3=>h1 ⟨h2,h3⟩
     simpa using this
    clear h2 h1;go_enter Tryz.func203,Tryz.ntmps203;go_wp2;exact bodyPost_ret (v:=.tuple #[.int .i64 (a.tdiv b),.int .i64 0]) (by simp[results,Tryz.results203,go_sem]) rfl ⟨rfl,rfl⟩
   ·have ha0:(a==-9223372036854775808)=false:=by simpa using h2
    clear h2 h1;go_enter Tryz.func203,Tryz.ntmps203;go_wp2;exact bodyPost_ret (v:=.tuple #[.int .i64 (a.tdiv b),.int .i64 0]) (by simp[results,Tryz.results203,go_sem]) rfl ⟨rfl,rfl⟩
theorem tmod_in {a b:Int}(ha:In64 a)(hb:b≠0):In64 (a.tmod b):=by
 have h1:(a.tmod b).natAbs<=a.natAbs:=by rw[Int.natAbs_tmod];exact Nat.mod_le _ _
 have h2:0<=a->0<=a.tmod b:=fun h=>Int.tmod_nonneg b h
 obtain ⟨ha1,ha2⟩:=ha;unfold In64;by_cases h0:0<=a
 ·have:=h2 h0
  omega
 ·by_cases hz:a=-9223372036854775808
  ·have h3:(a.tmod b).natAbs<b.natAbs:=by rw[Int.natAbs_tmod];exact Nat.mod_lt _ (by omega)
   have h4:a.tmod b<=0:=by
    have:=Int.tmod_nonneg b (a:=-a) (by omega)
    rw[Int.neg_tmod] at this;omega
   omega
  ·omega
theorem rest_c {a b:Int}(ha:In64 a)(hb:In64 b)(w:World):Calls Tryz.prog 204 #[.int .i64 a,.int .i64 b] w fun e w'=>e=.returned (reV a b)/\w'=w:=by
 unfold reV;by_cases h0:b=0
 ·rw[if_pos h0];subst h0;go_enter Tryz.func204,Tryz.ntmps204;go_wp2;exact bodyPost_ret (v:=.tuple #[.int .i64 0,.int .i64 4]) (by simp[results,Tryz.results204,go_sem]) rfl ⟨rfl,rfl⟩
 ·rw[if_neg h0];obtain ⟨hi1,hi2⟩:=tmod_in ha h0;have hb0:(b==0)=false:=by simpa using h0
  go_enter Tryz.func204,Tryz.ntmps204;go_wp2;exact bodyPost_ret (v:=.tuple #[.int .i64 (a.tmod b),.int .i64 0]) (by simp[results,Tryz.results204,go_sem]) rfl ⟨rfl,rfl⟩
theorem mul_round {a b:Int}(ha:In64 a)(hb:In64 b)(h0:b≠0)(h:¬In64 (a*b))(hq:(wrap64 (a*b)).tdiv b=a):False:=by
 obtain ⟨p,hp⟩:∃p,p=wrap64 (a*b):=⟨_,rfl⟩;rw[<-hp] at hq;have h1:=Int.mul_tdiv_add_tmod p b;rw[hq] at h1;have h2:(p.tmod b).natAbs<b.natAbs:=by rw[Int.natAbs_tmod];exact Nat.mod_lt _ (by omega)
 have h3:b*a=a*b:=Int.mul_comm b a;obtain ⟨hb1,hb2⟩:=hb;unfold In64 at h;unfold wrap64 at hp;generalize a*b=m at *;omega
theorem times_c {a b:Int}(ha:In64 a)(hb:In64 b)(w:World):Calls Tryz.prog 202 #[.int .i64 a,.int .i64 b] w fun e w'=>e=.returned (ovV (a*b))/\w'=w:=by
 by_cases h0:a=0
 ·subst h0;rw[Int.zero_mul];go_enter Tryz.func202,Tryz.ntmps202;go_wp2;exact bodyPost_ret (v:=.tuple #[.int .i64 0,.int .i64 0]) (by simp[results,Tryz.results202,go_sem]) rfl ⟨rfl,rfl⟩
 by_cases h1:b=0
 ·subst h1;rw[Int.mul_zero];have ha0:(a==0)=false:=by simpa using h0
  go_enter Tryz.func202,Tryz.ntmps202;go_wp2;exact bodyPost_ret (v:=.tuple #[.int .i64 0,.int .i64 0]) (by simp[results,Tryz.results202,go_sem]) rfl ⟨rfl,rfl⟩
 have ha0:(a==0)=false:=by simpa using h0
 have hb0:(b==0)=false:=by simpa using h1
 unfold ovV;by_cases h:In64 (a*b)
 ·rw[inI_pos h];simp only[if_true];have hq:(a*b).tdiv b=a:=Int.mul_tdiv_cancel a h1;obtain ⟨hi1,hi2⟩:=h;obtain ⟨ha1,ha2⟩:=ha;by_cases h2:a<0
  ·by_cases h3:b<0
   ·have h4:¬a*b<0:=by have:=Int.mul_pos_of_neg_of_neg h2 h3;omega
    go_enter Tryz.func202,Tryz.ntmps202;go_wp2;exact bodyPost_ret (v:=.tuple #[.int .i64 (a*b),.int .i64 0]) (by simp[results,Tryz.results202,go_sem]) rfl ⟨rfl,rfl⟩
   ·have h4:a*b<0:=Int.mul_neg_of_neg_of_pos h2 (by omega)
    go_enter Tryz.func202,Tryz.ntmps202;go_wp2;exact bodyPost_ret (v:=.tuple #[.int .i64 (a*b),.int .i64 0]) (by simp[results,Tryz.results202,go_sem]) rfl ⟨rfl,rfl⟩
  ·by_cases h3:b<0
   ·have h4:a*b<0:=Int.mul_neg_of_pos_of_neg (by omega) h3
    go_enter Tryz.func202,Tryz.ntmps202;go_wp2;exact bodyPost_ret (v:=.tuple #[.int .i64 (a*b),.int .i64 0]) (by simp[results,Tryz.results202,go_sem]) rfl ⟨rfl,rfl⟩
   ·have h4:¬a*b<0:=by have:=Int.mul_pos (a:=a) (b:=b) (by omega) (by omega);omega
    go_enter Tryz.func202,Tryz.ntmps202;go_wp2;exact bodyPost_ret (v:=.tuple #[.int .i64 (a*b),.int .i64 0]) (by simp[results,Tryz.results202,go_sem]) rfl ⟨rfl,rfl⟩
 ·rw[inI_neg h];simp only[Bool.false_eq_true,if_false];by_cases hm:a=-9223372036854775808/\b=-1
  ·obtain ⟨rfl,rfl⟩:=hm;have hw:wrap64 9223372036854775808=-9223372036854775808:=by unfold wrap64;omega
   go_enter Tryz.func202,Tryz.ntmps202;go_wp2;exact bodyPost_ret (v:=.tuple #[.int .i64 0,.int .i64 1]) (by simp[results,Tryz.results202,go_sem]) rfl ⟨rfl,rfl⟩
  ·have hq:¬(wrap64 (a*b)).tdiv b=a:=fun hq=>mul_round ha hb h1 h hq
   have hp:In64 (wrap64 (a*b)):=by unfold In64 wrap64;omega
   have hx:¬(wrap64 (a*b)=-9223372036854775808/\b=-1):=by
    rintro ⟨h2,rfl⟩;obtain ⟨ha1,ha2⟩:=ha;unfold In64 at h;unfold wrap64 at h2;omega
   obtain ⟨hi1,hi2⟩:=tdiv_in hp h1 hx;clear h hm hx;go_enter Tryz.func202,Tryz.ntmps202;go_wp2;exact bodyPost_ret (v:=.tuple #[.int .i64 0,.int .i64 1]) (by simp[results,Tryz.results202,go_sem]) rfl ⟨rfl,rfl⟩
end Go.Proofs.YtaihhnlfcndecaaGreatDoor
