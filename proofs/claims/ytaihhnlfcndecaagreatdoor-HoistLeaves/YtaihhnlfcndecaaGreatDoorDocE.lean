import Derived.Test.YtaihhnlfcndecaaGreatDoorPrgE
import Derived.Deep.CutBlock
import Derived.Deep.DeepCutAuto
namespace Go.Proofs.YtaihhnlfcndecaaGreatDoor
open Go.ChangeShapes Go.WideShapes Go.ChangeAt Go.RowKit
set_option linter.unusedVariables false
set_option linter.unusedSimpArgs false
def PrtV (x : Value) (k : Int) : Prop := ∃ ty v, x = .iface ty v ∧ ∀ (d : Nat) (w : World), d = Tryz.prog.types.size + Made.depth → (method d ty v "isthmus/plan.kind").run Tryz.prog w = .ok (262, .agg #[.int .i64 k]) w
theorem kindof_c (k:Int) (w:World):Calls Tryz.prog 262 #[.agg #[.int .i64 k]] w fun x w'=>x=.returned (.int .i64 k)∧Below w.heap.size w w':=by
 have B0:∀ o:Obj,Below w.heap.size w (w.alloc o):=fun o=>(Below.refl _ w).alloc (Nat.le_refl _) _
 go_enter Tryz.func262,Tryz.ntmps262
 go_wp2
 go_ret
 exact ⟨rfl,B0 _⟩
def PKs (w:World) (v:Value) (n:Nat):Prop:=∃ ak ck,v=.slice ak n ck∧(n=0∨∃ b off,ak=some ⟨b,off,none⟩∧b < w.heap.size∧∀ j,j < n→∃ ty u,w.cell? ⟨b,off+j,none⟩=some (.iface ty u))
set_option maxRecDepth 100000 in
theorem prt_constant (k:Int) (n:Int):PrtV (.iface 209 (.agg #[.int .i64 k,.int .i64 n])) k:=⟨_,_,rfl,fun d w h=>by subst h;kernel_rfl⟩
set_option maxRecDepth 100000 in
theorem prt_vertex (k:Int) (n:Int):PrtV (.iface 211 (.agg #[.int .i64 k,.int .i64 n])) k:=⟨_,_,rfl,fun d w h=>by subst h;kernel_rfl⟩
set_option maxRecDepth 100000 in
theorem prt_variable (k:Int) (n:Int):PrtV (.iface 213 (.agg #[.int .i64 k,.int .i64 n])) k:=⟨_,_,rfl,fun d w h=>by subst h;kernel_rfl⟩
set_option maxRecDepth 100000 in
theorem prt_operation (k:Int) (n:Int) (a:Option Addr) (l c:Nat):PrtV (.iface 232 (.agg #[.int .i64 k,.int .i64 n,.slice a l c])) k:=⟨_,_,rfl,fun d w h=>by subst h;kernel_rfl⟩
set_option maxRecDepth 100000 in
theorem prt_connective (k:Int) (n:Int) (t1 t2:TypeId) (u1 u2:Value):PrtV (.iface 215 (.agg #[.int .i64 k,.int .i64 n,.iface t1 u1,.iface t2 u2])) k:=⟨_,_,rfl,fun d w h=>by subst h;kernel_rfl⟩
set_option maxRecDepth 100000 in
theorem prt_choice (k:Int) (t1 t2 t3:TypeId) (u1 u2 u3:Value):PrtV (.iface 217 (.agg #[.int .i64 k,.iface t1 u1,.iface t2 u2,.iface t3 u3])) k:=⟨_,_,rfl,fun d w h=>by subst h;kernel_rfl⟩
set_option maxRecDepth 100000 in
theorem prt_call (k:Int) (n:Int) (a:Option Addr) (l c:Nat):PrtV (.iface 219 (.agg #[.int .i64 k,.int .i64 n,.slice a l c])) k:=⟨_,_,rfl,fun d w h=>by subst h;kernel_rfl⟩
set_option maxRecDepth 100000 in
theorem prt_quantifier (k:Int) (n m:Int) (t1 t2:TypeId) (u1 u2:Value):PrtV (.iface 221 (.agg #[.int .i64 k,.int .i64 n,.int .i64 m,.iface t1 u1,.iface t2 u2])) k:=⟨_,_,rfl,fun d w h=>by subst h;kernel_rfl⟩
set_option maxRecDepth 100000 in
theorem prt_cell (k:Int) (n:Int) (t1:TypeId) (u1:Value):PrtV (.iface 223 (.agg #[.int .i64 k,.int .i64 n,.iface t1 u1])) k:=⟨_,_,rfl,fun d w h=>by subst h;kernel_rfl⟩
set_option maxRecDepth 100000 in
theorem prt_allSet (k:Int) :PrtV (.iface 225 (.agg #[.int .i64 k])) k:=⟨_,_,rfl,fun d w h=>by subst h;kernel_rfl⟩
set_option maxRecDepth 100000 in
theorem prt_namedSet (k:Int) (s:ByteArray):PrtV (.iface 227 (.agg #[.int .i64 k,.string s])) k:=⟨_,_,rfl,fun d w h=>by subst h;kernel_rfl⟩
set_option maxRecDepth 100000 in
theorem prt_aroundSet (k:Int) (t1:TypeId) (u1:Value):PrtV (.iface 229 (.agg #[.int .i64 k,.iface t1 u1])) k:=⟨_,_,rfl,fun d w h=>by subst h;kernel_rfl⟩
set_option maxRecDepth 100000 in
theorem prt_listSet (k:Int) (a:Option Addr) (l c:Nat):PrtV (.iface 231 (.agg #[.int .i64 k,.slice a l c])) k:=⟨_,_,rfl,fun d w h=>by subst h;kernel_rfl⟩
set_option maxRecDepth 100000 in
set_option maxHeartbeats 8000000 in
theorem laid_c (k0 n:Int) (nm:List UInt8) (f:Fs) (ao:Option Addr) (cap:Nat) (t:Int) (kv:Value) (nk:Nat) (ar:Int) (w:World) (hk:PKs w kv nk) (h2:k0=17∨k0=18∨k0=21→nk=2) (h3:k0=19→nk=3) (h1:k0=24∨k0=26→nk=1) :
  Calls Tryz.prog 161 #[.agg #[.int .i64 k0,.int .i64 n,stv nm,.slice ao f.len cap],.agg #[.int .i64 t],kv,.int .i64 ar] w fun x w'=>(∃ v,x=.returned v∧PrtV v t)∧Below w.heap.size w w':=by
 obtain ⟨w0,hw0⟩:∃ w0,w0=(w.alloc (.cells #[.int .i64 k0,.int .i64 n,stv nm,.slice ao f.len cap] 34)).alloc (.cells #[.int .i64 t] 176):=⟨_,rfl⟩
 have B0:Below w.heap.size w w0:=by rw [hw0];exact ((Below.refl _ w).alloc (Nat.le_refl _) _).alloc (by simp) _
 have E0:w0.heap[w.heap.size]?=some (.cells #[.int .i64 k0,.int .i64 n,stv nm,.slice ao f.len cap] 34):=by
  rw [hw0]
  exact (Below.heap_alloc _ _ _ (by simp)).trans (heap_alloc_new w _)
 have T0:w0.heap[w.heap.size+1]?=some (.cells #[.int .i64 t] 176):=by
  rw [hw0]
  have:=heap_alloc_new (w.alloc (.cells #[.int .i64 k0,.int .i64 n,stv nm,.slice ao f.len cap] 34)) (.cells #[.int .i64 t] 176)
  simpa using this
 obtain ⟨ak,ck,rfl,hk⟩:=hk
 go_enter Tryz.func161,Tryz.ntmps161
 go_upto_region 1 with fail
 rw [←hw0]
 obtain ⟨bx,hbx⟩:∃ bx,bx=w.heap.size:=⟨_,rfl⟩
 rw [←hbx] at E0 T0 B0 ⊢
 have HB:Hid (bx=w.heap.size):=hbx
 clear hw0
 obtain ⟨p0,p1,p2,p3,pf⟩:=box4 E0
 have t0:w0.cell? ⟨bx+1,0,none⟩=some (.int .i64 t):=by rw [cell_of_row _ _ _ _ _ _ T0];rfl
 have tf:∀ j,w0.frozen? ⟨bx+1,j,none⟩=false:=fun j=>frozen_of_row w0 (bx+1) j _ _ T0
 have bdr:∀ m,Below bx w (w0.drewN m):=fun m=>B0.trans ⟨rfl,rfl,rfl,Nat.le_refl _,fun _ _=>rfl⟩
 have hkc:Hid (∀ j,j < nk→∃ b off ty u,ak=some ⟨b,off,none⟩∧w0.cell? ⟨b,off+j,none⟩=some (.iface ty u)):=by
  intro j hj
  rcases hk with hk | ⟨b,off,rfl,hb,hc⟩
  ·omega
  ·obtain ⟨ty,u,hu⟩:=hc j hj
   exact ⟨b,off,ty,u,rfl,(B0.cell (p:=⟨b,off+j,none⟩) (by rw [hbx];exact hb)).trans hu⟩
 clear hk hbx E0 T0
 by_cases e1:k0=1
 ·subst e1
  clear hkc h1 h2 h3
  go_wp2
  refine bodyPost_ret (v:=.iface 209 (.agg #[.int .i64 t,.int .i64 n])) (by simp [results,Tryz.results161,go_sem]) rfl ⟨⟨_,rfl,prt_constant _ _⟩,?_⟩
  rw [←HB.out]
  exact B0
 have b1:(k0 == 1)=false:=by simpa using e1
 by_cases e2:k0=2
 ·subst e2
  clear hkc h1 h2 h3
  go_wp2
  refine bodyPost_ret (v:=.iface 209 (.agg #[.int .i64 t,.int .i64 n])) (by simp [results,Tryz.results161,go_sem]) rfl ⟨⟨_,rfl,prt_constant _ _⟩,?_⟩
  rw [←HB.out]
  exact B0
 have b2:(k0 == 2)=false:=by simpa using e2
 by_cases e3:k0=3
 ·subst e3
  clear hkc h1 h2 h3
  go_wp2
  refine bodyPost_ret (v:=.iface 211 (.agg #[.int .i64 t,.int .i64 n])) (by simp [results,Tryz.results161,go_sem]) rfl ⟨⟨_,rfl,prt_vertex _ _⟩,?_⟩
  rw [←HB.out]
  exact B0
 have b3:(k0 == 3)=false:=by simpa using e3
 by_cases e5:k0=5
 ·subst e5
  clear hkc h1 h2 h3
  go_wp2
  refine bodyPost_ret (v:=.iface 213 (.agg #[.int .i64 t,.int .i64 n])) (by simp [results,Tryz.results161,go_sem]) rfl ⟨⟨_,rfl,prt_variable _ _⟩,?_⟩
  rw [←HB.out]
  exact B0
 have b5:(k0 == 5)=false:=by simpa using e5
 by_cases e17:k0=17
 ·subst e17
  have hnk:nk=2:=h2 (.inl rfl)
  subst hnk
  obtain ⟨b,off,t1,u1,rfl,x0⟩:=hkc.out 0 (by omega)
  obtain ⟨b1,off1,t2,u2,hj1,x1⟩:=hkc.out 1 (by omega)
  injection hj1 with hj1
  injection hj1 with hja1 hjb1
  subst hja1
  subst hjb1
  simp only [Nat.add_zero] at x0
  clear hkc h1 h2 h3
  go_wp2_with fail
  go_quiet (fail)
  have BD:=bdr nq
  go_wp2
  refine bodyPost_ret (v:=.iface 215 (.agg #[.int .i64 t,.int .i64 0,.iface t1 u1,.iface t2 u2])) (by simp [results,Tryz.results161,go_sem]) rfl ⟨⟨_,rfl,prt_connective _ _ _ _ _ _⟩,?_⟩
  rw [←HB.out]
  exact BD
 have b17:(k0 == 17)=false:=by simpa using e17
 by_cases e18:k0=18
 ·subst e18
  have hnk:nk=2:=h2 (.inr (.inl rfl))
  subst hnk
  obtain ⟨b,off,t1,u1,rfl,x0⟩:=hkc.out 0 (by omega)
  obtain ⟨b1,off1,t2,u2,hj1,x1⟩:=hkc.out 1 (by omega)
  injection hj1 with hj1
  injection hj1 with hja1 hjb1
  subst hja1
  subst hjb1
  simp only [Nat.add_zero] at x0
  clear hkc h1 h2 h3
  go_wp2_with fail
  go_quiet (fail)
  have BD:=bdr nq
  go_wp2
  refine bodyPost_ret (v:=.iface 215 (.agg #[.int .i64 t,.int .i64 1,.iface t1 u1,.iface t2 u2])) (by simp [results,Tryz.results161,go_sem]) rfl ⟨⟨_,rfl,prt_connective _ _ _ _ _ _⟩,?_⟩
  rw [←HB.out]
  exact BD
 have b18:(k0 == 18)=false:=by simpa using e18
 by_cases e19:k0=19
 ·subst e19
  have hnk:nk=3:=h3 rfl
  subst hnk
  obtain ⟨b,off,t1,u1,rfl,x0⟩:=hkc.out 0 (by omega)
  obtain ⟨b1,off1,t2,u2,hj1,x1⟩:=hkc.out 1 (by omega)
  injection hj1 with hj1
  injection hj1 with hja1 hjb1
  subst hja1
  subst hjb1
  obtain ⟨b2,off2,t3,u3,hj2,x2⟩:=hkc.out 2 (by omega)
  injection hj2 with hj2
  injection hj2 with hja2 hjb2
  subst hja2
  subst hjb2
  simp only [Nat.add_zero] at x0
  clear hkc h1 h2 h3
  go_wp2_with fail
  go_quiet (fail)
  have BD:=bdr nq
  go_wp2
  refine bodyPost_ret (v:=.iface 217 (.agg #[.int .i64 t,.iface t1 u1,.iface t2 u2,.iface t3 u3])) (by simp [results,Tryz.results161,go_sem]) rfl ⟨⟨_,rfl,prt_choice _ _ _ _ _ _ _⟩,?_⟩
  rw [←HB.out]
  exact BD
 have b19:(k0 == 19)=false:=by simpa using e19
 by_cases e20:k0=20
 ·subst e20
  clear hkc h1 h2 h3
  go_wp2
  refine bodyPost_ret (v:=.iface 219 (.agg #[.int .i64 t,.int .i64 n,.slice ak nk ck])) (by simp [results,Tryz.results161,go_sem]) rfl ⟨⟨_,rfl,prt_call _ _ _ _ _⟩,?_⟩
  rw [←HB.out]
  exact B0
 have b20:(k0 == 20)=false:=by simpa using e20
 by_cases e21:k0=21
 ·subst e21
  have hnk:nk=2:=h2 (.inr (.inr rfl))
  subst hnk
  obtain ⟨b,off,t1,u1,rfl,x0⟩:=hkc.out 0 (by omega)
  obtain ⟨b1,off1,t2,u2,hj1,x1⟩:=hkc.out 1 (by omega)
  injection hj1 with hj1
  injection hj1 with hja1 hjb1
  subst hja1
  subst hjb1
  simp only [Nat.add_zero] at x0
  clear hkc h1 h2 h3
  go_wp2_with fail
  go_quiet (fail)
  have BD:=bdr nq
  go_wp2
  refine bodyPost_ret (v:=.iface 221 (.agg #[.int .i64 t,.int .i64 n,.int .i64 ar,.iface t1 u1,.iface t2 u2])) (by simp [results,Tryz.results161,go_sem]) rfl ⟨⟨_,rfl,prt_quantifier _ _ _ _ _ _ _⟩,?_⟩
  rw [←HB.out]
  exact BD
 have b21:(k0 == 21)=false:=by simpa using e21
 by_cases e26:k0=26
 ·subst e26
  have hnk:nk=1:=h1 (.inr rfl)
  subst hnk
  obtain ⟨b,off,t1,u1,rfl,x0⟩:=hkc.out 0 (by omega)
  simp only [Nat.add_zero] at x0
  clear hkc h1 h2 h3
  go_wp2_with fail
  go_quiet (fail)
  have BD:=bdr nq
  go_wp2
  refine bodyPost_ret (v:=.iface 223 (.agg #[.int .i64 t,.int .i64 n,.iface t1 u1])) (by simp [results,Tryz.results161,go_sem]) rfl ⟨⟨_,rfl,prt_cell _ _ _ _⟩,?_⟩
  rw [←HB.out]
  exact BD
 have b26:(k0 == 26)=false:=by simpa using e26
 by_cases e22:k0=22
 ·subst e22
  clear hkc h1 h2 h3
  go_wp2
  refine bodyPost_ret (v:=.iface 225 (.agg #[.int .i64 t])) (by simp [results,Tryz.results161,go_sem]) rfl ⟨⟨_,rfl,prt_allSet _⟩,?_⟩
  rw [←HB.out]
  exact B0
 have b22:(k0 == 22)=false:=by simpa using e22
 by_cases e23:k0=23
 ·subst e23
  clear hkc h1 h2 h3
  go_wp2
  refine bodyPost_ret (v:=.iface 227 (.agg #[.int .i64 t,stv nm])) (by simp [results,Tryz.results161,go_sem]) rfl ⟨⟨_,rfl,prt_namedSet _ _⟩,?_⟩
  rw [←HB.out]
  exact B0
 have b23:(k0 == 23)=false:=by simpa using e23
 by_cases e24:k0=24
 ·subst e24
  have hnk:nk=1:=h1 (.inl rfl)
  subst hnk
  obtain ⟨b,off,t1,u1,rfl,x0⟩:=hkc.out 0 (by omega)
  simp only [Nat.add_zero] at x0
  clear hkc h1 h2 h3
  go_wp2_with fail
  go_quiet (fail)
  have BD:=bdr nq
  go_wp2
  refine bodyPost_ret (v:=.iface 229 (.agg #[.int .i64 t,.iface t1 u1])) (by simp [results,Tryz.results161,go_sem]) rfl ⟨⟨_,rfl,prt_aroundSet _ _ _⟩,?_⟩
  rw [←HB.out]
  exact BD
 have b24:(k0 == 24)=false:=by simpa using e24
 by_cases e25:k0=25
 ·subst e25
  clear hkc h1 h2 h3
  go_wp2
  refine bodyPost_ret (v:=.iface 231 (.agg #[.int .i64 t,.slice ak nk ck])) (by simp [results,Tryz.results161,go_sem]) rfl ⟨⟨_,rfl,prt_listSet _ _ _ _⟩,?_⟩
  rw [←HB.out]
  exact B0
 have b25:(k0 == 25)=false:=by simpa using e25
 clear hkc h1 h2 h3
 go_wp2
 refine bodyPost_ret (v:=.iface 232 (.agg #[.int .i64 t,.int .i64 k0,.slice ak nk ck])) (by simp [results,Tryz.results161,go_sem]) rfl ⟨⟨_,rfl,prt_operation _ _ _ _ _⟩,?_⟩
 rw [←HB.out]
 exact B0
def wgF:Fs→Int→Int
 | ⟨none⟩,l=>l
 | ⟨some ⟨_,_,_,_,ks,r⟩⟩,l=>if l < 0 then l else wgF r (wgF ks (l - 1))
theorem wgF_cons (k n:Int) (nm:List UInt8) (a:Int) (ks r:Fs) (l:Int):wgF (.cons k n nm a ks r) l=if l < 0 then l else wgF r (wgF ks (l - 1)):=rfl
theorem wgF_neg:∀ (f:Fs) (l:Int),l < 0→wgF f l=l
 | ⟨none⟩,l,h=>rfl
 | ⟨some ⟨k,n,nm,a,ks,r⟩⟩,l,h=>by simp only [wgF,h,if_true]
theorem wgF_size:∀ (f:Fs) (l:Int),0≤wgF f l→wgF f l=l - (f.size:Nat)
 | ⟨none⟩,l,h=>by show l=l - ((0:Nat):Int);omega
 | ⟨some ⟨k,n,nm,a,ks,r⟩⟩,l,h=>by
  have e:wgF ⟨some ⟨k,n,nm,a,ks,r⟩⟩ l=if l < 0 then l else wgF r (wgF ks (l - 1)):=rfl
  rw [e] at h ⊢
  split at h
  ·omega
  ·rename_i hl
   rw [if_neg hl]
   have h1:=wgF_size r _ h
   by_cases h2:wgF ks (l - 1) < 0
   ·rw [wgF_neg r _ h2] at h
    omega
   ·have h3:=wgF_size ks (l - 1) (by omega)
    show _=l - ((ks.size+r.size+1:Nat):Int)
    omega
theorem wgF_le:∀ (f:Fs) (l:Int),-1≤l→-1≤wgF f l∧wgF f l≤l
 | ⟨none⟩,l,h=>⟨h,Int.le_refl _⟩
 | ⟨some ⟨k,n,nm,a,ks,r⟩⟩,l,h=>by
  have e:wgF ⟨some ⟨k,n,nm,a,ks,r⟩⟩ l=if l < 0 then l else wgF r (wgF ks (l - 1)):=rfl
  rw [e]
  split
  ·exact ⟨h,Int.le_refl _⟩
  ·have h1:=wgF_le ks (l - 1) (by omega)
   have h2:=wgF_le r _ h1.1
   exact ⟨h2.1,by omega⟩
def Fs.wide:Fs→Prop
 | ⟨none⟩=>True
 | ⟨some ⟨_,_,_,_,ks,r⟩⟩=>ks.len≤maxLen∧ks.wide∧r.wide
theorem Fs.app_wide:∀ {x y:Fs},(x.app y).wide→y.wide
 | ⟨none⟩,y,h=>h
 | ⟨some ⟨k,n,nm,a,ks,r⟩⟩,y,h=>Fs.app_wide (x:=r) h.2.2
def WeighNOk (N:Nat):Prop:=∀ (e:Ex) (ao:Option Addr) (cap:Nat) (l:Int) (w:World),e.kids.size < N→e.kids.len≤maxLen→e.kids.wide→0≤l→l≤1000000→SnA w e.kids ao →
 Calls Tryz.prog 35 #[exN e ao cap,.int .i64 l] w fun x w'=>x=.returned (.int .i64 (wgF e.kids (l - 1)))∧Below w.heap.size w w'
set_option maxRecDepth 100000 in
set_option maxHeartbeats 1000000 in
theorem weighn_step {N:Nat} (IH:WeighNOk N):WeighNOk (N+1):=by
 intro e ao cap l w hN hlen hwd hl0 hl1 S
 obtain ⟨W,hW⟩:∃ W,W=wgF e.kids (l - 1):=⟨_,rfl⟩
 rw [←hW]
 have HW:Hid (W=wgF e.kids (l - 1)):=hW
 have hml:Hid (maxLen=9223372036854775807):=rfl
 have hlm:e.kids.len≤9223372036854775807:=by have:=hml.out;omega
 clear hW
 have B0:Below w.heap.size w (w.alloc (.cells #[.int .i64 e.k,.int .i64 e.n,stv e.nm,.slice ao e.kids.len cap] 34)):=(Below.refl _ w).alloc (Nat.le_refl _) _
 have E0:(w.alloc (.cells #[.int .i64 e.k,.int .i64 e.n,stv e.nm,.slice ao e.kids.len cap] 34)).heap[w.heap.size]?=some (.cells #[.int .i64 e.k,.int .i64 e.n,stv e.nm,.slice ao e.kids.len cap] 34):=heap_alloc_new w _
 rw [exN_out]
 go_enter Tryz.func35,Tryz.ntmps35
 go_upto_region 1 with fail
 generalize w.alloc (.cells #[.int .i64 e.k,.int .i64 e.n,stv e.nm,.slice ao e.kids.len cap] 34)=w0 at *
 obtain ⟨bx,hbx⟩:∃ bx,bx=w.heap.size:=⟨_,rfl⟩
 rw [←hbx] at E0 B0 ⊢
 have HB:Hid (bx=w.heap.size):=hbx
 clear hbx
 go_wp2
 go_loopw [1,5] (fun v1 v5 wr=>∃ (done r:Fs) (c:Int),Hid (e.kids=done.app r)∧v1=.int .i64 c∧v5=.int .i64 (done.len:Nat)∧-1≤c∧c≤1000000∧Hid (wgF r c=W)∧wr.heap[bx]?=some (.cells #[.int .i64 e.k,.int .i64 e.n,stv e.nm,.slice ao e.kids.len cap] 34)∧Below bx w wr) (fun _ v5 _=>e.kids.len - (intOf v5).toNat)
 case atStart=>exact ⟨.nil,e.kids,l - 1,rfl,rfl,by show _=Value.int .i64 ((0:Nat):Int);rfl,by omega,by omega,HW.out.symm,E0,B0⟩
 case round =>
  clear E0 B0 HW
  obtain ⟨done,r,c,hk,rfl,rfl,hc0,hc1,HA,E1,B1⟩:=hrel
  have hlk:e.kids.len=done.len+r.len:=by rw [hk.out,Fs.len_app]
  obtain ⟨p0,p1,p2,p3,pf⟩:=box4 E1
  cases r using Fs.on with
  | nil =>
   have hlt:¬ (done.len:Int) < (e.kids.len:Int):=by simp only [Fs.len] at hlk;omega
   have FIN:Hid (W=c):=HA.out.symm
   clear HA hlk
   go_wp2
   go_ret
   rw [FIN.out]
   exact ⟨rfl,by rw [←HB.out];exact B1⟩
  | cons kk kn km ka kks kr =>
   have hlt:(done.len:Int) < (e.kids.len:Int):=by simp only [Fs.len] at hlk;omega
   have hl3:done.len < e.kids.len:=by omega
   by_cases hc:c < 0
   ·have hcI:¬ (0:Int)≤c:=by omega
    have FIN:Hid (W=c):=by show W=c;rw [←HA.out];exact wgF_neg _ _ hc
    clear HA hlk
    go_wp2
    go_ret
    rw [FIN.out]
    exact ⟨rfl,by rw [←HB.out];exact B1⟩
   ·have hcI:(0:Int)≤c:=by omega
    have hsz:e.kids.size=done.size+(kks.size+kr.size+1):=by rw [hk.out,Fs.size_app];rfl
    have hwk:(Fs.cons kk kn km ka kks kr).wide:=Fs.app_wide (x:=done) (by rw [←hk.out];exact hwd)
    obtain ⟨b,off,ak,ck,hao,lb1,-,x0,x1,x2,x3,SK⟩:=SlN.kidQ (by rw [←hk.out];exact SnA.below S (by rw [←HB.out];exact B1))
    subst hao
    have hcc:=IH ⟨kk,kn,km,ka,kks⟩ ak ck c wr (by show kks.size < N;omega) hwk.1 hwk.2.1 hcI (by omega) SK
    rw [exN_out] at hcc
    simp only at hcc
    have hbd:=wgF_le kks (c - 1) (by omega)
    have HA2:Hid (wgF kr (wgF kks (c - 1))=W):=by show _=W;rw [←HA.out,wgF_cons,if_neg hc]
    have hk2:Hid (e.kids=(done.snoc ⟨kk,kn,km,ka,kks⟩).app kr):=by show e.kids=_;rw [hk.out];unfold Fs.snoc;rw [Fs.app_assoc];rfl
    have hl2:(done.len:Int)+1=((done.snoc ⟨kk,kn,km,ka,kks⟩).len:Nat):=by rw [Fs.len_snoc];rfl
    generalize wgF kks (c - 1)=c2 at *
    clear HA hlk hsz hwk SK hk
    go_wp2_with fail
    refine hcc.mono ?_
    rintro x w2 ⟨rfl,b2⟩
    have B2:=B1.trans (b2.mono (by have:=lt_of_block E1;omega))
    have E2:=(b2.block bx (lt_of_block E1)).trans E1
    clear hcc x0 x1 x2 x3 p0 p1 p2 p3 pf b2 E1 B1
    go_wp2
    go_roundw
    case rel=>exact ⟨_,kr,c2,hk2,rfl,by rw [←hl2],hbd.1,by omega,HA2,E2,B2⟩
    case measure=>simp [intOf];omega
theorem weighn_ok:∀ N,WeighNOk N -- 35
 | 0=>fun e ao cap l w h=>absurd h (Nat.not_lt_zero _)
 | N+1=>weighn_step (weighn_ok N)
theorem sameE_self (a:Ex):sameE a a=true:=by simp [sameE,sameF_self]
def SameQOk (N:Nat):Prop:=∀ (e e2:Ex) (ao ao2:Option Addr) (cap cap2:Nat) (w:World),e.kids.size < N→e.kids.len≤1000000000→e.kids.short→e2.kids.len≤1000000000→e2.kids.short→SnA w e.kids ao→SnA w e2.kids ao2 →
 Calls Tryz.prog 52 #[exN e ao cap,exN e2 ao2 cap2] w fun x w'=>x=.returned (.bool (sameE e e2))∧Below w.heap.size w w'
def EqQOk (N:Nat):Prop:=∀ (f g:Fs) (ao ao2:Option Addr) (cap cap2:Nat) (w:World),f.size≤N→f.len≤1000000000→f.short→g.len≤1000000000→g.short→SnA w f ao→SnA w g ao2 →
 Calls Tryz.prog 82 #[.slice ao f.len cap,.slice ao2 g.len cap2,.func (.func 52) #[] #[]] w fun x w'=>x=.returned (.bool (sameF f g))∧Below w.heap.size w w'
set_option maxRecDepth 100000 in
set_option maxHeartbeats 1000000 in
theorem eqn_of {N:Nat} (H:SameQOk N):EqQOk N:=by
 intro f g ao ao2 cap cap2 w hN hlen hsh hlen2 hsh2 S S2
 obtain ⟨W,hW⟩:∃ W,W=sameF f g:=⟨_,rfl⟩
 rw [←hW]
 have HW:Hid (W=sameF f g):=hW
 clear hW
 go_enter Tryz.func82,Tryz.ntmps82
 by_cases hl:f.len=g.len
 ·have hI:((f.len:Int) != (g.len:Int))=false:=by rw [hl];simp
  have hIe:((f.len:Int) == (g.len:Int))=true:=by rw [hl];simp
  have HL:Hid (f.len=g.len):=hl
  clear hl
  go_wp2
  go_loopw [17] (fun v wr=>∃ (d r d2 r2:Fs),Hid (f=d.app r)∧Hid (g=d2.app r2)∧Hid (d2.len=d.len)∧v=.int .i64 (d.len:Nat)∧Hid (sameF r r2=W)∧Below w.heap.size w wr) (fun v _=>f.len - (intOf v).toNat)
  case atStart=>exact ⟨.nil,f,.nil,g,rfl,rfl,rfl,by show _=Value.int .i64 ((0:Nat):Int);rfl,HW.out.symm,Below.refl _ _⟩
  case round =>
   obtain ⟨d,r,d2,r2,hf,hg,hd,rfl,HA,B1⟩:=hrel
   have hlf:f.len=d.len+r.len:=by rw [hf.out,Fs.len_app]
   have hlg:g.len=d2.len+r2.len:=by rw [hg.out,Fs.len_app]
   have hrr:r.len=r2.len:=by have:=HL.out;have:=hd.out;omega
   have HRR:Hid (r.len=r2.len):=hrr
   clear HW hlg hrr hI hIe
   cases r using Fs.on with
   | nil =>
    have hl0:¬ (d.len:Int) < (f.len:Int):=by simp only [Fs.len] at hlf;omega
    have FIN:Hid (W=true):=by
     show W=true
     rw [←HA.out]
     cases r2 using Fs.on with
     | nil=>rfl
     | cons k n nm a ks r=>have:=HRR.out;simp only [Fs.len] at this;omega
    clear HA hlf HRR
    go_wp2
    go_ret
    rw [FIN.out]
    exact ⟨rfl,B1⟩
   | cons kk kn km ka kks kr =>
    cases r2 using Fs.on with
    | nil=>have:=HRR.out;simp only [Fs.len] at this;omega
    | cons jk jn jm ja jks jr =>
    have hl0:(d.len:Int) < (f.len:Int):=by simp only [Fs.len] at hlf;omega
    have hl1:d.len < f.len:=by omega
    have hl2:d.len < g.len:=by have:=HL.out;omega
    have hl3:(d.len:Int) < (g.len:Int):=by omega
    have hsz:f.size=d.size+(kks.size+kr.size+1):=by rw [hf.out,Fs.size_app];rfl
    have hsk:(Fs.cons kk kn km ka kks kr).short:=Fs.app_short (by rw [←hf.out];exact hsh)
    have hsj:(Fs.cons jk jn jm ja jks jr).short:=Fs.app_short (by rw [←hg.out];exact hsh2)
    obtain ⟨b,off,ak,ck,hao,lb1,-,x0,x1,x2,x3,SK⟩:=SlN.kidQ (by rw [←hf.out];exact SnA.below S B1)
    obtain ⟨b',off',aj,cj,hao',lb2,-,y0,y1,y2,y3,TK⟩:=SlN.kidQ (by rw [←hg.out];exact SnA.below S2 B1)
    subst hao hao'
    rw [hd.out] at y0 y1 y2 y3
    have b2:Below wr.heap.size wr (wr.alloc (.cells #[.int .i64 kk,.int .i64 kn,stv km,.slice ak kks.len ck] 34)):=(Below.refl _ wr).alloc (Nat.le_refl _) _
    have K2:(wr.alloc (.cells #[.int .i64 kk,.int .i64 kn,stv km,.slice ak kks.len ck] 34)).heap[wr.heap.size]?=some (.cells #[.int .i64 kk,.int .i64 kn,stv km,.slice ak kks.len ck] 34):=heap_alloc_new wr _
    have B2:=B1.trans (b2.mono B1.size)
    have z0:=(b2.cell (p:=⟨b',off'+d.len * 4,none⟩) lb2).trans y0
    have z1:=(b2.cell (p:=⟨b',off'+d.len * 4+1,none⟩) lb2).trans y1
    have z2:=(b2.cell (p:=⟨b',off'+d.len * 4+2,none⟩) lb2).trans y2
    have z3:=(b2.cell (p:=⟨b',off'+d.len * 4+3,none⟩) lb2).trans y3
    have SK2:=SnA.below SK b2
    have TK2:=SnA.below TK b2
    clear y0 y1 y2 y3 hlf
    go_upto_region 6 with fail
    generalize wr.alloc (.cells #[.int .i64 kk,.int .i64 kn,stv km,.slice ak kks.len ck] 34)=w2 at *
    generalize wr.heap.size=bk at *
    clear x0 x1 x2 x3 b2 SK TK B1
    have b3:Below w2.heap.size w2 (w2.alloc (.cells #[.int .i64 jk,.int .i64 jn,stv jm,.slice aj jks.len cj] 34)):=(Below.refl _ w2).alloc (Nat.le_refl _) _
    have J3:(w2.alloc (.cells #[.int .i64 jk,.int .i64 jn,stv jm,.slice aj jks.len cj] 34)).heap[w2.heap.size]?=some (.cells #[.int .i64 jk,.int .i64 jn,stv jm,.slice aj jks.len cj] 34):=heap_alloc_new w2 _
    have K3:=(b3.block _ (lt_of_block K2)).trans K2
    have B3:=B2.trans (b3.mono B2.size)
    have SK3:=SnA.below SK2 b3
    have TK3:=SnA.below TK2 b3
    go_upto_region 7 with fail
    generalize w2.alloc (.cells #[.int .i64 jk,.int .i64 jn,stv jm,.slice aj jks.len cj] 34)=w3 at *
    generalize w2.heap.size=bj at *
    clear z0 z1 z2 z3 b3 SK2 TK2 B2 K2
    obtain ⟨p0,p1,p2,p3,pf⟩:=box4 K3
    obtain ⟨q0,q1,q2,q3,qf⟩:=box4 J3
    have c4:=H ⟨kk,kn,km,ka,kks⟩ ⟨jk,jn,jm,ja,jks⟩ ak aj ck cj w3 (by show kks.size < N;omega) hsk.2.1 hsk.2.2.1 hsj.2.1 hsj.2.2.1 SK3 TK3
    rw [exN_out,exN_out] at c4
    simp only at c4
    have HA2:Hid ((sameE ⟨kk,kn,km,ka,kks⟩ ⟨jk,jn,jm,ja,jks⟩ && sameF kr jr)=W):=HA
    have hf2:Hid (f=(d.snoc ⟨kk,kn,km,ka,kks⟩).app kr):=by show f=_;rw [hf.out];unfold Fs.snoc;rw [Fs.app_assoc];rfl
    have hg2:Hid (g=(d2.snoc ⟨jk,jn,jm,ja,jks⟩).app jr):=by show g=_;rw [hg.out];unfold Fs.snoc;rw [Fs.app_assoc];rfl
    have hd2:Hid ((d2.snoc ⟨jk,jn,jm,ja,jks⟩).len=(d.snoc ⟨kk,kn,km,ka,kks⟩).len):=by show _=_;rw [Fs.len_snoc,Fs.len_snoc,hd.out]
    have hl4:(d.len:Int)+1=((d.snoc ⟨kk,kn,km,ka,kks⟩).len:Nat):=by rw [Fs.len_snoc];rfl
    generalize sameE ⟨kk,kn,km,ka,kks⟩ ⟨jk,jn,jm,ja,jks⟩=cc at *
    clear HA hf hg hd hsz hsk hsj SK3 TK3 K3 J3
    go_wp2_with fail
    refine c4.mono ?_
    rintro x w4 ⟨rfl,b4⟩
    have B4:=B3.trans (b4.mono B3.size)
    clear c4 p0 p1 p2 p3 pf q0 q1 q2 q3 qf b4 B3
    cases cc with
    | false =>
     have FIN:Hid (W=false):=by show W=_;rw [←HA2.out];rfl
     clear HA2
     go_wp2
     go_ret
     rw [FIN.out]
     exact ⟨rfl,B4⟩
    | true =>
     have HA3:Hid (sameF kr jr=W):=by show _=W;rw [←HA2.out];rfl
     clear HA2
     go_wp2
     go_roundw
     case rel=>exact ⟨_,kr,_,jr,hf2,hg2,hd2,by rw [←hl4],HA3,B4⟩
     case measure=>simp [intOf];omega
 ·have hI:((f.len:Int) != (g.len:Int))=true:=by simp;omega
  have hI2:¬ (f.len:Int)=(g.len:Int):=by omega
  have FIN:Hid (W=false):=by show W=_;rw [HW.out];exact sameF_len f g hl
  clear HW
  go_wp2
  go_ret
  rw [FIN.out]
  exact ⟨rfl,Below.refl _ _⟩
set_option maxRecDepth 100000 in
set_option maxHeartbeats 1000000 in
theorem samq_step {N:Nat} (IH:SameQOk N):SameQOk (N+1):=by
 intro e e2 ao ao2 cap cap2 w hN hlen hsh hlen2 hsh2 S S2
 obtain ⟨W,hW⟩:∃ W,W=sameE e e2:=⟨_,rfl⟩
 rw [←hW]
 have HW:Hid (W=sameE e e2):=hW
 clear hW
 have B0:Below w.heap.size w ((w.alloc (.cells #[.int .i64 e.k,.int .i64 e.n,stv e.nm,.slice ao e.kids.len cap] 34)).alloc (.cells #[.int .i64 e2.k,.int .i64 e2.n,stv e2.nm,.slice ao2 e2.kids.len cap2] 34)):=((Below.refl _ w).alloc (Nat.le_refl _) _).alloc (by simp) _
 have E0:((w.alloc (.cells #[.int .i64 e.k,.int .i64 e.n,stv e.nm,.slice ao e.kids.len cap] 34)).alloc (.cells #[.int .i64 e2.k,.int .i64 e2.n,stv e2.nm,.slice ao2 e2.kids.len cap2] 34)).heap[w.heap.size]?=some (.cells #[.int .i64 e.k,.int .i64 e.n,stv e.nm,.slice ao e.kids.len cap] 34):=(Below.heap_alloc _ _ _ (by simp)).trans (heap_alloc_new w _)
 have Y0:((w.alloc (.cells #[.int .i64 e.k,.int .i64 e.n,stv e.nm,.slice ao e.kids.len cap] 34)).alloc (.cells #[.int .i64 e2.k,.int .i64 e2.n,stv e2.nm,.slice ao2 e2.kids.len cap2] 34)).heap[w.heap.size+1]?=some (.cells #[.int .i64 e2.k,.int .i64 e2.n,stv e2.nm,.slice ao2 e2.kids.len cap2] 34):=by
  have:=heap_alloc_new (w.alloc (.cells #[.int .i64 e.k,.int .i64 e.n,stv e.nm,.slice ao e.kids.len cap] 34)) (.cells #[.int .i64 e2.k,.int .i64 e2.n,stv e2.nm,.slice ao2 e2.kids.len cap2] 34)
  simpa using this
 have S0:=SnA.below S B0
 have T0:=SnA.below S2 B0
 rw [exN_out,exN_out]
 go_enter Tryz.func52,Tryz.ntmps52
 go_upto_region 1 with fail
 generalize (w.alloc (.cells #[.int .i64 e.k,.int .i64 e.n,stv e.nm,.slice ao e.kids.len cap] 34)).alloc (.cells #[.int .i64 e2.k,.int .i64 e2.n,stv e2.nm,.slice ao2 e2.kids.len cap2] 34)=w0 at *
 obtain ⟨bx,hbx⟩:∃ bx,bx=w.heap.size:=⟨_,rfl⟩
 rw [←hbx] at E0 Y0 B0 ⊢
 have HB:Hid (bx=w.heap.size):=hbx
 clear hbx S S2
 obtain ⟨p0,p1,p2,p3,pf⟩:=box4 E0
 obtain ⟨q0,q1,q2,q3,qf⟩:=box4 Y0
 by_cases h1:e.k=e2.k
 ·have h1b:(e.k == e2.k)=true:=by simp [h1]
  by_cases h2:e.n=e2.n
  ·have h2b:(e.n == e2.n)=true:=by simp [h2]
   by_cases h3:e.nm=e2.nm
   ·have h3b:(e.nm == e2.nm)=true:=by simp [h3]
    have HF:Hid (W=sameF e.kids e2.kids):=by show W=_;rw [HW.out];simp [sameE,h1,h2,h3]
    have c1:=eqn_of IH e.kids e2.kids ao ao2 cap cap2 w0 (by omega) hlen hsh hlen2 hsh2 S0 T0
    clear HW h1 h2 h3
    go_wp2_with fail
    refine c1.mono ?_
    rintro x w1 ⟨rfl,b1⟩
    have B1:=B0.trans (b1.mono (by rw [HB.out];exact B0.size))
    clear c1 p0 p1 p2 p3 pf q0 q1 q2 q3 qf
    rw [←HF.out]
    go_wp2
    go_ret
    exact ⟨rfl,by rw [←HB.out];exact B1⟩
   ·have h3b:(e.nm == e2.nm)=false:=by simpa using h3
    have FIN:Hid (W=false):=by show W=_;rw [HW.out];simp [sameE,h3]
    clear HW h1 h2 h3
    go_wp2
    go_ret
    rw [FIN.out]
    exact ⟨rfl,by rw [←HB.out];exact B0⟩
  ·have h2b:(e.n == e2.n)=false:=by simpa using h2
   have FIN:Hid (W=false):=by show W=_;rw [HW.out];simp [sameE,h2]
   clear HW h1
   go_wp2
   go_ret
   rw [FIN.out]
   exact ⟨rfl,by rw [←HB.out];exact B0⟩
 ·have h1b:(e.k == e2.k)=false:=by simpa using h1
  have FIN:Hid (W=false):=by show W=_;rw [HW.out];simp [sameE,h1]
  clear HW
  go_wp2
  go_ret
  rw [FIN.out]
  exact ⟨rfl,by rw [←HB.out];exact B0⟩
theorem samq_ok:∀ N,SameQOk N -- 52
 | 0=>fun e e2 ao ao2 cap cap2 w h=>absurd h (Nat.not_lt_zero _)
 | N+1=>samq_step (samq_ok N)
structure FitN (e:Ex):Prop where
 nm:e.nm.length≤maxLen
 len:e.kids.len≤1000000000
 sh:e.kids.short
theorem FitN.kid {e:Ex} {d r:Fs} {x:Ex} (h:FitN e) (hk:e.kids=d.app (Fs.ex x r)):FitN x:=by
 have:=Fs.app_short (x:=d) (y:=Fs.ex x r) (by rw [←hk];exact h.sh)
 exact ⟨this.1,this.2.1,this.2.2.1⟩
theorem Kp.cell {a b:Nat} {w w':World} (h:Kp a b w w') {g:Nat} (hg:g < w.heap.size) (ha:g≠a) (hb:g≠b) (j:Nat):w'.cell? ⟨g,j,none⟩=w.cell? ⟨g,j,none⟩:=World.cell?_of_block (a:=⟨g,j,none⟩) (h.block g hg ha hb)
end Go.Proofs.YtaihhnlfcndecaaGreatDoor
