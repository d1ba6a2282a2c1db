import Derived.Test.YtaihhnlfcndecaaGreatDoorLexR
namespace Go.Proofs.YtaihhnlfcndecaaGreatDoor
open Go.ChangeShapes Go.WideShapes Go.ChangeAt Go.RowKit
set_option linter.unusedVariables false
set_option linter.unusedSimpArgs false
theorem emp_beq {nm:List UInt8} {b:Bool} (h:(nm == [])=b):((⟨nm.toArray⟩:ByteArray) == ⟨#[]⟩)=b:=by
 rw [←h]
 cases nm with
 | nil=>rfl
 | cons x r =>
  show (List.toArray (x :: r) == #[])=((x :: r) == [])
  rw [Bool.eq_iff_iff]
  simp
set_option maxRecDepth 100000 in
set_option maxHeartbeats 4000000 in
theorem form_q (e:Ex) (ao:Option Addr) (cap:Nat) (w:World) (hnm:e.nm.length≤maxLen) :
  Calls Tryz.prog 150 #[exN e ao cap] w fun x w'=>x=.returned (.bool (docF e.k e.n e.nm e.kids.len))∧Below w.heap.size w w':=by
 obtain ⟨k0,n,nm,a,f⟩:=e
 simp only at hnm
 obtain ⟨W,hW⟩:∃ W,W=docF k0 n nm f.len:=⟨_,rfl⟩
 simp only
 rw [←hW]
 have HW:Hid (W=docF k0 n nm f.len):=hW
 clear hW
 have B0:Below w.heap.size w (w.alloc (.cells #[.int .i64 k0,.int .i64 n,stv nm,.slice ao f.len cap] 34)):=(Below.refl _ w).alloc (Nat.le_refl _) _
 have E0:(w.alloc (.cells #[.int .i64 k0,.int .i64 n,stv nm,.slice ao f.len cap] 34)).heap[w.heap.size]?=some (.cells #[.int .i64 k0,.int .i64 n,stv nm,.slice ao f.len cap] 34):=heap_alloc_new w _
 rw [exN_out]
 go_enter Tryz.func150,Tryz.ntmps150
 go_upto_region 1 with fail
 generalize w.alloc (.cells #[.int .i64 k0,.int .i64 n,stv nm,.slice ao f.len cap] 34)=w0 at *
 obtain ⟨bx,hbx⟩:∃ bx,bx=w.heap.size:=⟨_,rfl⟩
 rw [←hbx] at E0 B0 ⊢
 have HB:Hid (bx=w.heap.size):=hbx
 clear hbx
 obtain ⟨p0,p1,p2,p3,pf⟩:=box4 E0
 have FIN:∀ {b:Bool},W=b→Value.bool b=.bool W:=fun h=>by rw [h]
 by_cases hkk:(1≤k0∧k0≤3)∨(5≤k0∧k0≤26)
 case neg =>
  have HZ:Hid (W=false):=by
   show W=_
   rw [HW.out]
   cases hd:docF k0 n nm f.len with
   | false=>rfl
   | true=>have:=docF_kind hd;omega
  have b1:∀ c:Int,(1≤c∧c≤3)∨(5≤c∧c≤26)→(k0 == c)=false:=fun c hc=>by simp;omega
  have c1:=b1 1 (by omega)
  have c2:=b1 2 (by omega)
  have c3:=b1 3 (by omega)
  have c5:=b1 5 (by omega)
  have c6:=b1 6 (by omega)
  have c7:=b1 7 (by omega)
  have c8:=b1 8 (by omega)
  have c9:=b1 9 (by omega)
  have c10:=b1 10 (by omega)
  have c11:=b1 11 (by omega)
  have c12:=b1 12 (by omega)
  have c13:=b1 13 (by omega)
  have c14:=b1 14 (by omega)
  have c15:=b1 15 (by omega)
  have c16:=b1 16 (by omega)
  have c17:=b1 17 (by omega)
  have c18:=b1 18 (by omega)
  have c19:=b1 19 (by omega)
  have c20:=b1 20 (by omega)
  have c21:=b1 21 (by omega)
  have c22:=b1 22 (by omega)
  have c23:=b1 23 (by omega)
  have c24:=b1 24 (by omega)
  have c25:=b1 25 (by omega)
  have c26:=b1 26 (by omega)
  clear HW E0 p1 p2 p3 hkk b1
  go_wp2
  go_ret
  rw [HZ.out]
  exact ⟨rfl,by rw [←HB.out];exact B0⟩
 case pos =>
 have hc:k0=1∨k0=2∨k0=3∨k0=5∨k0=6∨k0=7∨k0=8∨k0=9∨k0=10∨k0=11∨k0=12∨k0=13∨k0=14∨k0=15∨k0=16∨k0=17∨k0=18∨k0=19∨k0=20∨k0=21∨k0=22∨k0=23∨k0=24∨k0=25∨k0=26:=by omega
 clear hkk E0
 rcases hc with rfl | rfl | rfl | rfl | rfl | rfl | rfl | rfl | rfl | rfl | rfl | rfl | rfl | rfl | rfl | rfl | rfl | rfl | rfl | rfl | rfl | rfl | rfl | rfl | rfl
 ·cases g0:(nm == []) with
  | false =>
   have g0b:=emp_beq g0
   have HZ:Hid (W=false):=by show W=_;rw [HW.out];simp [docF,g0]
   clear HW
   go_wp2
   go_ret
   rw [HZ.out]
   exact ⟨rfl,by rw [←HB.out];exact B0⟩
  | true =>
   have g0b:=emp_beq g0
   cases g1:((f.len:Int) == 0) with
   | false =>
    have g1b:(f.len == 0)=false:=by have h:=g1;rw [Bool.eq_iff_iff] at h ⊢;simp at h ⊢;omega
    have HZ:Hid (W=false):=by show W=_;rw [HW.out];simp [docF,g0,g1b]
    clear HW
    go_wp2
    go_ret
    rw [HZ.out]
    exact ⟨rfl,by rw [←HB.out];exact B0⟩
   | true =>
    have g1b:(f.len == 0)=true:=by have h:=g1;rw [Bool.eq_iff_iff] at h ⊢;simp at h ⊢;omega
    have HZ:Hid (W=true):=by show W=_;rw [HW.out];simp [docF,g0,g1b]
    clear HW
    go_wp2
    go_ret
    rw [HZ.out]
    exact ⟨rfl,by rw [←HB.out];exact B0⟩
 ·cases g0:(n == 0) with
  | true =>
   cases g1:(nm == []) with
   | false =>
    have g1b:=emp_beq g1
    have HZ:Hid (W=false):=by show W=_;rw [HW.out];simp [docF,g0,g1]
    clear HW
    go_wp2
    go_ret
    rw [HZ.out]
    exact ⟨rfl,by rw [←HB.out];exact B0⟩
   | true =>
    have g1b:=emp_beq g1
    have HZ:Hid (W=((f.len:Int) == 0)):=by show W=_;rw [HW.out];rw [Bool.eq_iff_iff];simp [docF,g0,g1]
    clear HW
    go_wp2
    go_ret
    rw [HZ.out]
    exact ⟨rfl,by rw [←HB.out];exact B0⟩
  | false =>
   cases g2:(n == 1) with
   | false =>
    have HZ:Hid (W=false):=by show W=_;rw [HW.out];simp [docF,g0,g2]
    clear HW
    go_wp2
    go_ret
    rw [HZ.out]
    exact ⟨rfl,by rw [←HB.out];exact B0⟩
   | true =>
    cases g1:(nm == []) with
    | false =>
     have g1b:=emp_beq g1
     have HZ:Hid (W=false):=by show W=_;rw [HW.out];simp [docF,g0,g1]
     clear HW
     go_wp2
     go_ret
     rw [HZ.out]
     exact ⟨rfl,by rw [←HB.out];exact B0⟩
    | true =>
     have g1b:=emp_beq g1
     have HZ:Hid (W=((f.len:Int) == 0)):=by show W=_;rw [HW.out];rw [Bool.eq_iff_iff];simp [docF,g0,g1,g2]
     clear HW
     go_wp2
     go_ret
     rw [HZ.out]
     exact ⟨rfl,by rw [←HB.out];exact B0⟩
 ·cases g0:decide (0≤n) with
  | false =>
   have g0b:=of_decide_eq_false g0
   have HZ:Hid (W=false):=by show W=_;rw [HW.out];simp [docF,g0b]
   clear HW
   go_wp2
   go_ret
   rw [HZ.out]
   exact ⟨rfl,by rw [←HB.out];exact B0⟩
  | true =>
   have g0b:=of_decide_eq_true g0
   cases g1:(nm == []) with
   | false =>
    have g1b:=emp_beq g1
    have HZ:Hid (W=false):=by show W=_;rw [HW.out];simp [docF,g0b,g1]
    clear HW
    go_wp2
    go_ret
    rw [HZ.out]
    exact ⟨rfl,by rw [←HB.out];exact B0⟩
   | true =>
    have g1b:=emp_beq g1
    cases g2:((f.len:Int) == 0) with
    | false =>
     have g2b:(f.len == 0)=false:=by have h:=g2;rw [Bool.eq_iff_iff] at h ⊢;simp at h ⊢;omega
     have HZ:Hid (W=false):=by show W=_;rw [HW.out];simp [docF,g0b,g1,g2b]
     clear HW
     go_wp2
     go_ret
     rw [HZ.out]
     exact ⟨rfl,by rw [←HB.out];exact B0⟩
    | true =>
     have g2b:(f.len == 0)=true:=by have h:=g2;rw [Bool.eq_iff_iff] at h ⊢;simp at h ⊢;omega
     have HZ:Hid (W=true):=by show W=_;rw [HW.out];simp [docF,g0b,g1,g2b]
     clear HW
     go_wp2
     go_ret
     rw [HZ.out]
     exact ⟨rfl,by rw [←HB.out];exact B0⟩
 ·cases g0:decide (0≤n) with
  | false =>
   have g0b:=of_decide_eq_false g0
   have HZ:Hid (W=false):=by show W=_;rw [HW.out];simp [docF,g0b]
   clear HW
   go_wp2
   go_ret
   rw [HZ.out]
   exact ⟨rfl,by rw [←HB.out];exact B0⟩
  | true =>
   have g0b:=of_decide_eq_true g0
   cases g1:(nm == []) with
   | false =>
    have g1b:=emp_beq g1
    have HZ:Hid (W=false):=by show W=_;rw [HW.out];simp [docF,g0b,g1]
    clear HW
    go_wp2
    go_ret
    rw [HZ.out]
    exact ⟨rfl,by rw [←HB.out];exact B0⟩
   | true =>
    have g1b:=emp_beq g1
    cases g2:((f.len:Int) == 0) with
    | false =>
     have g2b:(f.len == 0)=false:=by have h:=g2;rw [Bool.eq_iff_iff] at h ⊢;simp at h ⊢;omega
     have HZ:Hid (W=false):=by show W=_;rw [HW.out];simp [docF,g0b,g1,g2b]
     clear HW
     go_wp2
     go_ret
     rw [HZ.out]
     exact ⟨rfl,by rw [←HB.out];exact B0⟩
    | true =>
     have g2b:(f.len == 0)=true:=by have h:=g2;rw [Bool.eq_iff_iff] at h ⊢;simp at h ⊢;omega
     have HZ:Hid (W=true):=by show W=_;rw [HW.out];simp [docF,g0b,g1,g2b]
     clear HW
     go_wp2
     go_ret
     rw [HZ.out]
     exact ⟨rfl,by rw [←HB.out];exact B0⟩
 ·cases g0:(n == 0) with
  | false =>
   have HZ:Hid (W=false):=by show W=_;rw [HW.out];simp [docF,g0]
   clear HW
   go_wp2
   go_ret
   rw [HZ.out]
   exact ⟨rfl,by rw [←HB.out];exact B0⟩
  | true =>
   cases g1:(nm == []) with
   | false =>
    have g1b:=emp_beq g1
    have HZ:Hid (W=false):=by show W=_;rw [HW.out];simp [docF,g0,g1]
    clear HW
    go_wp2
    go_ret
    rw [HZ.out]
    exact ⟨rfl,by rw [←HB.out];exact B0⟩
   | true =>
    have g1b:=emp_beq g1
    cases g2:((f.len:Int) == 1) with
    | false =>
     have g2b:(f.len == 1)=false:=by have h:=g2;rw [Bool.eq_iff_iff] at h ⊢;simp at h ⊢;omega
     have HZ:Hid (W=false):=by show W=_;rw [HW.out];simp [docF,g0,g1,g2b]
     clear HW
     go_wp2
     go_ret
     rw [HZ.out]
     exact ⟨rfl,by rw [←HB.out];exact B0⟩
    | true =>
     have g2b:(f.len == 1)=true:=by have h:=g2;rw [Bool.eq_iff_iff] at h ⊢;simp at h ⊢;omega
     have HZ:Hid (W=true):=by show W=_;rw [HW.out];simp [docF,g0,g1,g2b]
     clear HW
     go_wp2
     go_ret
     rw [HZ.out]
     exact ⟨rfl,by rw [←HB.out];exact B0⟩
 ·cases g0:(n == 0) with
  | false =>
   have HZ:Hid (W=false):=by show W=_;rw [HW.out];simp [docF,g0]
   clear HW
   go_wp2
   go_ret
   rw [HZ.out]
   exact ⟨rfl,by rw [←HB.out];exact B0⟩
  | true =>
   cases g1:(nm == []) with
   | false =>
    have g1b:=emp_beq g1
    have HZ:Hid (W=false):=by show W=_;rw [HW.out];simp [docF,g0,g1]
    clear HW
    go_wp2
    go_ret
    rw [HZ.out]
    exact ⟨rfl,by rw [←HB.out];exact B0⟩
   | true =>
    have g1b:=emp_beq g1
    cases g2:((f.len:Int) == 1) with
    | false =>
     have g2b:(f.len == 1)=false:=by have h:=g2;rw [Bool.eq_iff_iff] at h ⊢;simp at h ⊢;omega
     have HZ:Hid (W=false):=by show W=_;rw [HW.out];simp [docF,g0,g1,g2b]
     clear HW
     go_wp2
     go_ret
     rw [HZ.out]
     exact ⟨rfl,by rw [←HB.out];exact B0⟩
    | true =>
     have g2b:(f.len == 1)=true:=by have h:=g2;rw [Bool.eq_iff_iff] at h ⊢;simp at h ⊢;omega
     have HZ:Hid (W=true):=by show W=_;rw [HW.out];simp [docF,g0,g1,g2b]
     clear HW
     go_wp2
     go_ret
     rw [HZ.out]
     exact ⟨rfl,by rw [←HB.out];exact B0⟩
 ·cases g0:(n == 0) with
  | false =>
   have HZ:Hid (W=false):=by show W=_;rw [HW.out];simp [docF,g0]
   clear HW
   go_wp2
   go_ret
   rw [HZ.out]
   exact ⟨rfl,by rw [←HB.out];exact B0⟩
  | true =>
   cases g1:(nm == []) with
   | false =>
    have g1b:=emp_beq g1
    have HZ:Hid (W=false):=by show W=_;rw [HW.out];simp [docF,g0,g1]
    clear HW
    go_wp2
    go_ret
    rw [HZ.out]
    exact ⟨rfl,by rw [←HB.out];exact B0⟩
   | true =>
    have g1b:=emp_beq g1
    cases g2:((f.len:Int) == 2) with
    | false =>
     have g2b:(f.len == 2)=false:=by have h:=g2;rw [Bool.eq_iff_iff] at h ⊢;simp at h ⊢;omega
     have HZ:Hid (W=false):=by show W=_;rw [HW.out];simp [docF,g0,g1,g2b]
     clear HW
     go_wp2
     go_ret
     rw [HZ.out]
     exact ⟨rfl,by rw [←HB.out];exact B0⟩
    | true =>
     have g2b:(f.len == 2)=true:=by have h:=g2;rw [Bool.eq_iff_iff] at h ⊢;simp at h ⊢;omega
     have HZ:Hid (W=true):=by show W=_;rw [HW.out];simp [docF,g0,g1,g2b]
     clear HW
     go_wp2
     go_ret
     rw [HZ.out]
     exact ⟨rfl,by rw [←HB.out];exact B0⟩
 ·cases g0:(n == 0) with
  | false =>
   have HZ:Hid (W=false):=by show W=_;rw [HW.out];simp [docF,g0]
   clear HW
   go_wp2
   go_ret
   rw [HZ.out]
   exact ⟨rfl,by rw [←HB.out];exact B0⟩
  | true =>
   cases g1:(nm == []) with
   | false =>
    have g1b:=emp_beq g1
    have HZ:Hid (W=false):=by show W=_;rw [HW.out];simp [docF,g0,g1]
    clear HW
    go_wp2
    go_ret
    rw [HZ.out]
    exact ⟨rfl,by rw [←HB.out];exact B0⟩
   | true =>
    have g1b:=emp_beq g1
    cases g2:((f.len:Int) == 2) with
    | false =>
     have g2b:(f.len == 2)=false:=by have h:=g2;rw [Bool.eq_iff_iff] at h ⊢;simp at h ⊢;omega
     have HZ:Hid (W=false):=by show W=_;rw [HW.out];simp [docF,g0,g1,g2b]
     clear HW
     go_wp2
     go_ret
     rw [HZ.out]
     exact ⟨rfl,by rw [←HB.out];exact B0⟩
    | true =>
     have g2b:(f.len == 2)=true:=by have h:=g2;rw [Bool.eq_iff_iff] at h ⊢;simp at h ⊢;omega
     have HZ:Hid (W=true):=by show W=_;rw [HW.out];simp [docF,g0,g1,g2b]
     clear HW
     go_wp2
     go_ret
     rw [HZ.out]
     exact ⟨rfl,by rw [←HB.out];exact B0⟩
 ·cases g0:(n == 0) with
  | false =>
   have HZ:Hid (W=false):=by show W=_;rw [HW.out];simp [docF,g0]
   clear HW
   go_wp2
   go_ret
   rw [HZ.out]
   exact ⟨rfl,by rw [←HB.out];exact B0⟩
  | true =>
   cases g1:(nm == []) with
   | false =>
    have g1b:=emp_beq g1
    have HZ:Hid (W=false):=by show W=_;rw [HW.out];simp [docF,g0,g1]
    clear HW
    go_wp2
    go_ret
    rw [HZ.out]
    exact ⟨rfl,by rw [←HB.out];exact B0⟩
   | true =>
    have g1b:=emp_beq g1
    cases g2:((f.len:Int) == 2) with
    | false =>
     have g2b:(f.len == 2)=false:=by have h:=g2;rw [Bool.eq_iff_iff] at h ⊢;simp at h ⊢;omega
     have HZ:Hid (W=false):=by show W=_;rw [HW.out];simp [docF,g0,g1,g2b]
     clear HW
     go_wp2
     go_ret
     rw [HZ.out]
     exact ⟨rfl,by rw [←HB.out];exact B0⟩
    | true =>
     have g2b:(f.len == 2)=true:=by have h:=g2;rw [Bool.eq_iff_iff] at h ⊢;simp at h ⊢;omega
     have HZ:Hid (W=true):=by show W=_;rw [HW.out];simp [docF,g0,g1,g2b]
     clear HW
     go_wp2
     go_ret
     rw [HZ.out]
     exact ⟨rfl,by rw [←HB.out];exact B0⟩
 ·cases g0:(n == 0) with
  | false =>
   have HZ:Hid (W=false):=by show W=_;rw [HW.out];simp [docF,g0]
   clear HW
   go_wp2
   go_ret
   rw [HZ.out]
   exact ⟨rfl,by rw [←HB.out];exact B0⟩
  | true =>
   cases g1:(nm == []) with
   | false =>
    have g1b:=emp_beq g1
    have HZ:Hid (W=false):=by show W=_;rw [HW.out];simp [docF,g0,g1]
    clear HW
    go_wp2
    go_ret
    rw [HZ.out]
    exact ⟨rfl,by rw [←HB.out];exact B0⟩
   | true =>
    have g1b:=emp_beq g1
    cases g2:((f.len:Int) == 2) with
    | false =>
     have g2b:(f.len == 2)=false:=by have h:=g2;rw [Bool.eq_iff_iff] at h ⊢;simp at h ⊢;omega
     have HZ:Hid (W=false):=by show W=_;rw [HW.out];simp [docF,g0,g1,g2b]
     clear HW
     go_wp2
     go_ret
     rw [HZ.out]
     exact ⟨rfl,by rw [←HB.out];exact B0⟩
    | true =>
     have g2b:(f.len == 2)=true:=by have h:=g2;rw [Bool.eq_iff_iff] at h ⊢;simp at h ⊢;omega
     have HZ:Hid (W=true):=by show W=_;rw [HW.out];simp [docF,g0,g1,g2b]
     clear HW
     go_wp2
     go_ret
     rw [HZ.out]
     exact ⟨rfl,by rw [←HB.out];exact B0⟩
 ·cases g0:(n == 0) with
  | false =>
   have HZ:Hid (W=false):=by show W=_;rw [HW.out];simp [docF,g0]
   clear HW
   go_wp2
   go_ret
   rw [HZ.out]
   exact ⟨rfl,by rw [←HB.out];exact B0⟩
  | true =>
   cases g1:(nm == []) with
   | false =>
    have g1b:=emp_beq g1
    have HZ:Hid (W=false):=by show W=_;rw [HW.out];simp [docF,g0,g1]
    clear HW
    go_wp2
    go_ret
    rw [HZ.out]
    exact ⟨rfl,by rw [←HB.out];exact B0⟩
   | true =>
    have g1b:=emp_beq g1
    cases g2:((f.len:Int) == 2) with
    | false =>
     have g2b:(f.len == 2)=false:=by have h:=g2;rw [Bool.eq_iff_iff] at h ⊢;simp at h ⊢;omega
     have HZ:Hid (W=false):=by show W=_;rw [HW.out];simp [docF,g0,g1,g2b]
     clear HW
     go_wp2
     go_ret
     rw [HZ.out]
     exact ⟨rfl,by rw [←HB.out];exact B0⟩
    | true =>
     have g2b:(f.len == 2)=true:=by have h:=g2;rw [Bool.eq_iff_iff] at h ⊢;simp at h ⊢;omega
     have HZ:Hid (W=true):=by show W=_;rw [HW.out];simp [docF,g0,g1,g2b]
     clear HW
     go_wp2
     go_ret
     rw [HZ.out]
     exact ⟨rfl,by rw [←HB.out];exact B0⟩
 ·cases g0:(n == 0) with
  | false =>
   have HZ:Hid (W=false):=by show W=_;rw [HW.out];simp [docF,g0]
   clear HW
   go_wp2
   go_ret
   rw [HZ.out]
   exact ⟨rfl,by rw [←HB.out];exact B0⟩
  | true =>
   cases g1:(nm == []) with
   | false =>
    have g1b:=emp_beq g1
    have HZ:Hid (W=false):=by show W=_;rw [HW.out];simp [docF,g0,g1]
    clear HW
    go_wp2
    go_ret
    rw [HZ.out]
    exact ⟨rfl,by rw [←HB.out];exact B0⟩
   | true =>
    have g1b:=emp_beq g1
    cases g2:((f.len:Int) == 2) with
    | false =>
     have g2b:(f.len == 2)=false:=by have h:=g2;rw [Bool.eq_iff_iff] at h ⊢;simp at h ⊢;omega
     have HZ:Hid (W=false):=by show W=_;rw [HW.out];simp [docF,g0,g1,g2b]
     clear HW
     go_wp2
     go_ret
     rw [HZ.out]
     exact ⟨rfl,by rw [←HB.out];exact B0⟩
    | true =>
     have g2b:(f.len == 2)=true:=by have h:=g2;rw [Bool.eq_iff_iff] at h ⊢;simp at h ⊢;omega
     have HZ:Hid (W=true):=by show W=_;rw [HW.out];simp [docF,g0,g1,g2b]
     clear HW
     go_wp2
     go_ret
     rw [HZ.out]
     exact ⟨rfl,by rw [←HB.out];exact B0⟩
 ·cases g0:(n == 0) with
  | false =>
   have HZ:Hid (W=false):=by show W=_;rw [HW.out];simp [docF,g0]
   clear HW
   go_wp2
   go_ret
   rw [HZ.out]
   exact ⟨rfl,by rw [←HB.out];exact B0⟩
  | true =>
   cases g1:(nm == []) with
   | false =>
    have g1b:=emp_beq g1
    have HZ:Hid (W=false):=by show W=_;rw [HW.out];simp [docF,g0,g1]
    clear HW
    go_wp2
    go_ret
    rw [HZ.out]
    exact ⟨rfl,by rw [←HB.out];exact B0⟩
   | true =>
    have g1b:=emp_beq g1
    cases g2:((f.len:Int) == 2) with
    | false =>
     have g2b:(f.len == 2)=false:=by have h:=g2;rw [Bool.eq_iff_iff] at h ⊢;simp at h ⊢;omega
     have HZ:Hid (W=false):=by show W=_;rw [HW.out];simp [docF,g0,g1,g2b]
     clear HW
     go_wp2
     go_ret
     rw [HZ.out]
     exact ⟨rfl,by rw [←HB.out];exact B0⟩
    | true =>
     have g2b:(f.len == 2)=true:=by have h:=g2;rw [Bool.eq_iff_iff] at h ⊢;simp at h ⊢;omega
     have HZ:Hid (W=true):=by show W=_;rw [HW.out];simp [docF,g0,g1,g2b]
     clear HW
     go_wp2
     go_ret
     rw [HZ.out]
     exact ⟨rfl,by rw [←HB.out];exact B0⟩
 ·cases g0:(n == 0) with
  | false =>
   have HZ:Hid (W=false):=by show W=_;rw [HW.out];simp [docF,g0]
   clear HW
   go_wp2
   go_ret
   rw [HZ.out]
   exact ⟨rfl,by rw [←HB.out];exact B0⟩
  | true =>
   cases g1:(nm == []) with
   | false =>
    have g1b:=emp_beq g1
    have HZ:Hid (W=false):=by show W=_;rw [HW.out];simp [docF,g0,g1]
    clear HW
    go_wp2
    go_ret
    rw [HZ.out]
    exact ⟨rfl,by rw [←HB.out];exact B0⟩
   | true =>
    have g1b:=emp_beq g1
    cases g2:((f.len:Int) == 2) with
    | false =>
     have g2b:(f.len == 2)=false:=by have h:=g2;rw [Bool.eq_iff_iff] at h ⊢;simp at h ⊢;omega
     have HZ:Hid (W=false):=by show W=_;rw [HW.out];simp [docF,g0,g1,g2b]
     clear HW
     go_wp2
     go_ret
     rw [HZ.out]
     exact ⟨rfl,by rw [←HB.out];exact B0⟩
    | true =>
     have g2b:(f.len == 2)=true:=by have h:=g2;rw [Bool.eq_iff_iff] at h ⊢;simp at h ⊢;omega
     have HZ:Hid (W=true):=by show W=_;rw [HW.out];simp [docF,g0,g1,g2b]
     clear HW
     go_wp2
     go_ret
     rw [HZ.out]
     exact ⟨rfl,by rw [←HB.out];exact B0⟩
 ·cases g0:(n == 0) with
  | false =>
   have HZ:Hid (W=false):=by show W=_;rw [HW.out];simp [docF,g0]
   clear HW
   go_wp2
   go_ret
   rw [HZ.out]
   exact ⟨rfl,by rw [←HB.out];exact B0⟩
  | true =>
   cases g1:(nm == []) with
   | false =>
    have g1b:=emp_beq g1
    have HZ:Hid (W=false):=by show W=_;rw [HW.out];simp [docF,g0,g1]
    clear HW
    go_wp2
    go_ret
    rw [HZ.out]
    exact ⟨rfl,by rw [←HB.out];exact B0⟩
   | true =>
    have g1b:=emp_beq g1
    cases g2:((f.len:Int) == 2) with
    | false =>
     have g2b:(f.len == 2)=false:=by have h:=g2;rw [Bool.eq_iff_iff] at h ⊢;simp at h ⊢;omega
     have HZ:Hid (W=false):=by show W=_;rw [HW.out];simp [docF,g0,g1,g2b]
     clear HW
     go_wp2
     go_ret
     rw [HZ.out]
     exact ⟨rfl,by rw [←HB.out];exact B0⟩
    | true =>
     have g2b:(f.len == 2)=true:=by have h:=g2;rw [Bool.eq_iff_iff] at h ⊢;simp at h ⊢;omega
     have HZ:Hid (W=true):=by show W=_;rw [HW.out];simp [docF,g0,g1,g2b]
     clear HW
     go_wp2
     go_ret
     rw [HZ.out]
     exact ⟨rfl,by rw [←HB.out];exact B0⟩
 ·cases g0:(n == 0) with
  | false =>
   have HZ:Hid (W=false):=by show W=_;rw [HW.out];simp [docF,g0]
   clear HW
   go_wp2
   go_ret
   rw [HZ.out]
   exact ⟨rfl,by rw [←HB.out];exact B0⟩
  | true =>
   cases g1:(nm == []) with
   | false =>
    have g1b:=emp_beq g1
    have HZ:Hid (W=false):=by show W=_;rw [HW.out];simp [docF,g0,g1]
    clear HW
    go_wp2
    go_ret
    rw [HZ.out]
    exact ⟨rfl,by rw [←HB.out];exact B0⟩
   | true =>
    have g1b:=emp_beq g1
    cases g2:((f.len:Int) == 2) with
    | false =>
     have g2b:(f.len == 2)=false:=by have h:=g2;rw [Bool.eq_iff_iff] at h ⊢;simp at h ⊢;omega
     have HZ:Hid (W=false):=by show W=_;rw [HW.out];simp [docF,g0,g1,g2b]
     clear HW
     go_wp2
     go_ret
     rw [HZ.out]
     exact ⟨rfl,by rw [←HB.out];exact B0⟩
    | true =>
     have g2b:(f.len == 2)=true:=by have h:=g2;rw [Bool.eq_iff_iff] at h ⊢;simp at h ⊢;omega
     have HZ:Hid (W=true):=by show W=_;rw [HW.out];simp [docF,g0,g1,g2b]
     clear HW
     go_wp2
     go_ret
     rw [HZ.out]
     exact ⟨rfl,by rw [←HB.out];exact B0⟩
 ·cases g0:(n == 0) with
  | false =>
   have HZ:Hid (W=false):=by show W=_;rw [HW.out];simp [docF,g0]
   clear HW
   go_wp2
   go_ret
   rw [HZ.out]
   exact ⟨rfl,by rw [←HB.out];exact B0⟩
  | true =>
   cases g1:(nm == []) with
   | false =>
    have g1b:=emp_beq g1
    have HZ:Hid (W=false):=by show W=_;rw [HW.out];simp [docF,g0,g1]
    clear HW
    go_wp2
    go_ret
    rw [HZ.out]
    exact ⟨rfl,by rw [←HB.out];exact B0⟩
   | true =>
    have g1b:=emp_beq g1
    cases g2:((f.len:Int) == 2) with
    | false =>
     have g2b:(f.len == 2)=false:=by have h:=g2;rw [Bool.eq_iff_iff] at h ⊢;simp at h ⊢;omega
     have HZ:Hid (W=false):=by show W=_;rw [HW.out];simp [docF,g0,g1,g2b]
     clear HW
     go_wp2
     go_ret
     rw [HZ.out]
     exact ⟨rfl,by rw [←HB.out];exact B0⟩
    | true =>
     have g2b:(f.len == 2)=true:=by have h:=g2;rw [Bool.eq_iff_iff] at h ⊢;simp at h ⊢;omega
     have HZ:Hid (W=true):=by show W=_;rw [HW.out];simp [docF,g0,g1,g2b]
     clear HW
     go_wp2
     go_ret
     rw [HZ.out]
     exact ⟨rfl,by rw [←HB.out];exact B0⟩
 ·cases g0:(n == 0) with
  | false =>
   have HZ:Hid (W=false):=by show W=_;rw [HW.out];simp [docF,g0]
   clear HW
   go_wp2
   go_ret
   rw [HZ.out]
   exact ⟨rfl,by rw [←HB.out];exact B0⟩
  | true =>
   cases g1:(nm == []) with
   | false =>
    have g1b:=emp_beq g1
    have HZ:Hid (W=false):=by show W=_;rw [HW.out];simp [docF,g0,g1]
    clear HW
    go_wp2
    go_ret
    rw [HZ.out]
    exact ⟨rfl,by rw [←HB.out];exact B0⟩
   | true =>
    have g1b:=emp_beq g1
    cases g2:((f.len:Int) == 3) with
    | false =>
     have g2b:(f.len == 3)=false:=by have h:=g2;rw [Bool.eq_iff_iff] at h ⊢;simp at h ⊢;omega
     have HZ:Hid (W=false):=by show W=_;rw [HW.out];simp [docF,g0,g1,g2b]
     clear HW
     go_wp2
     go_ret
     rw [HZ.out]
     exact ⟨rfl,by rw [←HB.out];exact B0⟩
    | true =>
     have g2b:(f.len == 3)=true:=by have h:=g2;rw [Bool.eq_iff_iff] at h ⊢;simp at h ⊢;omega
     have HZ:Hid (W=true):=by show W=_;rw [HW.out];simp [docF,g0,g1,g2b]
     clear HW
     go_wp2
     go_ret
     rw [HZ.out]
     exact ⟨rfl,by rw [←HB.out];exact B0⟩
 ·cases g0:(nm == []) with
  | false =>
   have g0b:=emp_beq g0
   have HZ:Hid (W=false):=by show W=_;rw [HW.out];simp [docF,g0]
   clear HW
   go_wp2
   go_ret
   rw [HZ.out]
   exact ⟨rfl,by rw [←HB.out];exact B0⟩
  | true =>
   have g0b:=emp_beq g0
   have HC:Hid (W=((decide (1≤n) && decide (n≤3) && f.len == 2) || (decide (4≤n) && decide (n≤10) && f.len == 1))):=by show W=_;rw [HW.out];simp [docF,g0]
   clear HW
   by_cases h1:1≤n∧n≤3
   ·obtain ⟨h1,h3⟩:=h1
    cases g1:((f.len:Int) == 2) with
    | true =>
     have HZ:Hid (W=true):=by show W=_;rw [HC.out];simp at g1 ⊢;omega
     clear HC
     go_wp2
     go_ret
     rw [HZ.out]
     exact ⟨rfl,by rw [←HB.out];exact B0⟩
    | false =>
     have h4:¬ (4:Int)≤n:=by omega
     have HZ:Hid (W=false):=by show W=_;rw [HC.out];simp at g1 ⊢;omega
     clear HC
     go_wp2
     go_ret
     rw [HZ.out]
     exact ⟨rfl,by rw [←HB.out];exact B0⟩
   ·by_cases h2:4≤n∧n≤10
    ·obtain ⟨h4,h5⟩:=h2
     have h6:¬ n≤3:=by omega
     have h7:(1:Int)≤n:=by omega
     have HZ:Hid (W=((f.len:Int) == 1)):=by show W=_;rw [HC.out,Bool.eq_iff_iff];simp;omega
     clear HC h1
     go_wp2
     go_ret
     rw [HZ.out]
     exact ⟨rfl,by rw [←HB.out];exact B0⟩
    ·have HZ:Hid (W=false):=by show W=_;rw [HC.out];simp;omega
     clear HC
     by_cases h3:1≤n
     ·have h4:¬ n≤3:=by omega
      have h5:(4:Int)≤n:=by omega
      have h6:¬ n≤10:=by omega
      clear h1 h2
      go_wp2
      go_ret
      rw [HZ.out]
      exact ⟨rfl,by rw [←HB.out];exact B0⟩
     ·have h5:¬ (4:Int)≤n:=by omega
      clear h1 h2
      go_wp2
      go_ret
      rw [HZ.out]
      exact ⟨rfl,by rw [←HB.out];exact B0⟩
 ·cases g0:decide (1≤n) with
  | false =>
   have g0b:=of_decide_eq_false g0
   have HZ:Hid (W=false):=by show W=_;rw [HW.out];simp [docF,g0b]
   clear HW
   go_wp2
   go_ret
   rw [HZ.out]
   exact ⟨rfl,by rw [←HB.out];exact B0⟩
  | true =>
   have g0b:=of_decide_eq_true g0
   cases g1:decide (n≤6) with
   | false =>
    have g1b:=of_decide_eq_false g1
    have HZ:Hid (W=false):=by show W=_;rw [HW.out];simp [docF,g0b,g1b]
    clear HW
    go_wp2
    go_ret
    rw [HZ.out]
    exact ⟨rfl,by rw [←HB.out];exact B0⟩
   | true =>
    have g1b:=of_decide_eq_true g1
    cases g2:(nm == []) with
    | false =>
     have g2b:=emp_beq g2
     have HZ:Hid (W=false):=by show W=_;rw [HW.out];simp [docF,g0b,g1b,g2]
     clear HW
     go_wp2
     go_ret
     rw [HZ.out]
     exact ⟨rfl,by rw [←HB.out];exact B0⟩
    | true =>
     have g2b:=emp_beq g2
     cases g3:((f.len:Int) == 2) with
     | false =>
      have g3b:(f.len == 2)=false:=by have h:=g3;rw [Bool.eq_iff_iff] at h ⊢;simp at h ⊢;omega
      have HZ:Hid (W=false):=by show W=_;rw [HW.out];simp [docF,g0b,g1b,g2,g3b]
      clear HW
      go_wp2
      go_ret
      rw [HZ.out]
      exact ⟨rfl,by rw [←HB.out];exact B0⟩
     | true =>
      have g3b:(f.len == 2)=true:=by have h:=g3;rw [Bool.eq_iff_iff] at h ⊢;simp at h ⊢;omega
      have HZ:Hid (W=true):=by show W=_;rw [HW.out];simp [docF,g0b,g1b,g2,g3b]
      clear HW
      go_wp2
      go_ret
      rw [HZ.out]
      exact ⟨rfl,by rw [←HB.out];exact B0⟩
 ·cases g0:(n == 0) with
  | false =>
   have HZ:Hid (W=false):=by show W=_;rw [HW.out];simp [docF,g0]
   clear HW
   go_wp2
   go_ret
   rw [HZ.out]
   exact ⟨rfl,by rw [←HB.out];exact B0⟩
  | true =>
   cases g1:(nm == []) with
   | false =>
    have g1b:=emp_beq g1
    have HZ:Hid (W=false):=by show W=_;rw [HW.out];simp [docF,g0,g1]
    clear HW
    go_wp2
    go_ret
    rw [HZ.out]
    exact ⟨rfl,by rw [←HB.out];exact B0⟩
   | true =>
    have g1b:=emp_beq g1
    cases g2:((f.len:Int) == 0) with
    | false =>
     have g2b:(f.len == 0)=false:=by have h:=g2;rw [Bool.eq_iff_iff] at h ⊢;simp at h ⊢;omega
     have HZ:Hid (W=false):=by show W=_;rw [HW.out];simp [docF,g0,g1,g2b]
     clear HW
     go_wp2
     go_ret
     rw [HZ.out]
     exact ⟨rfl,by rw [←HB.out];exact B0⟩
    | true =>
     have g2b:(f.len == 0)=true:=by have h:=g2;rw [Bool.eq_iff_iff] at h ⊢;simp at h ⊢;omega
     have HZ:Hid (W=true):=by show W=_;rw [HW.out];simp [docF,g0,g1,g2b]
     clear HW
     go_wp2
     go_ret
     rw [HZ.out]
     exact ⟨rfl,by rw [←HB.out];exact B0⟩
 ·cases g0:(n == 0) with
  | false =>
   have HZ:Hid (W=false):=by show W=_;rw [HW.out];simp [docF,g0]
   clear HW
   go_wp2
   go_ret
   rw [HZ.out]
   exact ⟨rfl,by rw [←HB.out];exact B0⟩
  | true =>
   cases g1:((f.len:Int) == 0) with
   | false =>
    have g1b:(f.len == 0)=false:=by have h:=g1;rw [Bool.eq_iff_iff] at h ⊢;simp at h ⊢;omega
    have HZ:Hid (W=false):=by show W=_;rw [HW.out];simp [docF,g0,g1b]
    clear HW
    go_wp2
    go_ret
    rw [HZ.out]
    exact ⟨rfl,by rw [←HB.out];exact B0⟩
   | true =>
    have g1b:(f.len == 0)=true:=by have h:=g1;rw [Bool.eq_iff_iff] at h ⊢;simp at h ⊢;omega
    have HZ:Hid (W=nameB nm):=by show W=_;rw [HW.out];simp [docF,g0,g1b]
    have c1:=fun w=>name_r ⟨nm.toArray⟩ w (by show nm.toArray.size≤maxLen;simpa using hnm)
    clear HW
    go_wp2_with (go_at_call 92;refine (c1 _).mono ?_;rintro x w1 ⟨rfl,b1⟩)
    have B1:=B0.trans (b1.mono (by have:=HB.out;have:=B0.size;omega))
    clear c1 p0 p1 p2 p3 pf
    go_wp2
    go_ret
    rw [HZ.out]
    exact ⟨rfl,by rw [←HB.out];exact B1⟩
 ·cases g0:(n == 0) with
  | false =>
   have HZ:Hid (W=false):=by show W=_;rw [HW.out];simp [docF,g0]
   clear HW
   go_wp2
   go_ret
   rw [HZ.out]
   exact ⟨rfl,by rw [←HB.out];exact B0⟩
  | true =>
   cases g1:(nm == []) with
   | false =>
    have g1b:=emp_beq g1
    have HZ:Hid (W=false):=by show W=_;rw [HW.out];simp [docF,g0,g1]
    clear HW
    go_wp2
    go_ret
    rw [HZ.out]
    exact ⟨rfl,by rw [←HB.out];exact B0⟩
   | true =>
    have g1b:=emp_beq g1
    cases g2:((f.len:Int) == 1) with
    | false =>
     have g2b:(f.len == 1)=false:=by have h:=g2;rw [Bool.eq_iff_iff] at h ⊢;simp at h ⊢;omega
     have HZ:Hid (W=false):=by show W=_;rw [HW.out];simp [docF,g0,g1,g2b]
     clear HW
     go_wp2
     go_ret
     rw [HZ.out]
     exact ⟨rfl,by rw [←HB.out];exact B0⟩
    | true =>
     have g2b:(f.len == 1)=true:=by have h:=g2;rw [Bool.eq_iff_iff] at h ⊢;simp at h ⊢;omega
     have HZ:Hid (W=true):=by show W=_;rw [HW.out];simp [docF,g0,g1,g2b]
     clear HW
     go_wp2
     go_ret
     rw [HZ.out]
     exact ⟨rfl,by rw [←HB.out];exact B0⟩
 ·cases g0:(n == 0) with
  | false =>
   have HZ:Hid (W=false):=by show W=_;rw [HW.out];simp [docF,g0]
   clear HW
   go_wp2
   go_ret
   rw [HZ.out]
   exact ⟨rfl,by rw [←HB.out];exact B0⟩
  | true =>
   cases g1:(nm == []) with
   | false =>
    have g1b:=emp_beq g1
    have HZ:Hid (W=false):=by show W=_;rw [HW.out];simp [docF,g0,g1]
    clear HW
    go_wp2
    go_ret
    rw [HZ.out]
    exact ⟨rfl,by rw [←HB.out];exact B0⟩
   | true =>
    have g1b:=emp_beq g1
    have HZ:Hid (W=true):=by show W=_;rw [HW.out];simp [docF,g0,g1]
    clear HW
    go_wp2
    go_ret
    rw [HZ.out]
    exact ⟨rfl,by rw [←HB.out];exact B0⟩
 ·cases g0:(nm == []) with
  | false =>
   have g0b:=emp_beq g0
   have HZ:Hid (W=false):=by show W=_;rw [HW.out];simp [docF,g0]
   clear HW
   go_wp2
   go_ret
   rw [HZ.out]
   exact ⟨rfl,by rw [←HB.out];exact B0⟩
  | true =>
   have g0b:=emp_beq g0
   cases g1:((f.len:Int) == 1) with
   | false =>
    have g1b:(f.len == 1)=false:=by have h:=g1;rw [Bool.eq_iff_iff] at h ⊢;simp at h ⊢;omega
    have HZ:Hid (W=false):=by show W=_;rw [HW.out];simp [docF,g0,g1b]
    clear HW
    go_wp2
    go_ret
    rw [HZ.out]
    exact ⟨rfl,by rw [←HB.out];exact B0⟩
   | true =>
    have g1b:(f.len == 1)=true:=by have h:=g1;rw [Bool.eq_iff_iff] at h ⊢;simp at h ⊢;omega
    have HZ:Hid (W=true):=by show W=_;rw [HW.out];simp [docF,g0,g1b]
    clear HW
    go_wp2
    go_ret
    rw [HZ.out]
    exact ⟨rfl,by rw [←HB.out];exact B0⟩
end Go.Proofs.YtaihhnlfcndecaaGreatDoor
