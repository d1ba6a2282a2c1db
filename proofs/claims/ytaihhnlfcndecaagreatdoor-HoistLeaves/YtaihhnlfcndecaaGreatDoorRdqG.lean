import Derived.Test.YtaihhnlfcndecaaGreatDoorWrqK
namespace Go.Proofs.YtaihhnlfcndecaaGreatDoor
open Go.ChangeShapes Go.WideShapes Go.ChangeAt Go.RowKit
set_option linter.unusedVariables false
set_option linter.unusedSimpArgs false
set_option maxRecDepth 100000 in
set_option maxHeartbeats 2000000 in
theorem print_q (e:Ex) (ao:Option Addr) (cap:Nat) (w:World) (he:e.fit) (S:SlT w e.kids ao) :
  Calls Tryz.prog 116 #[exV e ao cap] w (PostP w (writA e)):=by
 obtain ⟨w1,hw1⟩:∃ w1,w1=(w.alloc (bxX e ao cap)).alloc (.cells #[.slice none 0 0,.int .i64 0,.int .i64 0,.bool true] 180):=⟨_,rfl⟩
 obtain ⟨be,hbe⟩:∃ be,be=w.heap.size:=⟨_,rfl⟩
 obtain ⟨o1,ho1⟩:∃ o1:Nat→Nat,o1=fun k=>if k=be+1 then 1 else 0:=⟨_,rfl⟩
 have B1:Below be w w1:=by rw [hw1,hbe];exact ((Below.refl _ w).alloc (Nat.le_refl _) _).alloc (by simp) _
 have E1:w1.heap[be]?=some (bxX e ao cap):=by
  rw [hw1,hbe]
  exact (Below.heap_alloc _ _ _ (by simp)).trans (heap_alloc_new w _)
 have W1:w1.heap[be+1]?=some (.cells #[.slice none 0 0,.int .i64 0,.int .i64 0,.bool true] 180 (0,0)):=by
  rw [hw1,hbe]
  have:=heap_alloc_new (w.alloc (bxX e ao cap)) (.cells #[.slice none 0 0,.int .i64 0,.int .i64 0,.bool true] 180)
  simpa using this
 have L1:∀ k,k≤be→o1 k=0:=fun k hk=>by rw [ho1];show (if k=be+1 then 1 else 0)=0;rw [if_neg (by omega)]
 have L2:o1 (be+1)=1:=by rw [ho1];show (if be+1=be+1 then 1 else 0)=1;rw [if_pos rfl]
 have Q1:WQ w1 o1 (be+1) (some ⟨[],0,0⟩):=⟨⟨.slice none 0 0,⟨W1,L2⟩,Row.nil _ _ _ _ _⟩,by simp,by simp,by simp⟩
 have S1:Sl w1 (L0 o1) e.kids ao:=S.mono (fun i _ hl=>B1.block i (by rw [hbe];exact hl)) B1.size (fun i _ hl=>L1 i (by omega))
 have c2:=wpart_all (e.kids.size+1) e ao cap false (be+1) _ w1 o1 (Nat.lt_succ_self _) he S1 Q1
 obtain ⟨R,hR⟩:∃ R,R=oEx e false (some ⟨[],0,0⟩):=⟨_,rfl⟩
 rw [←hR] at c2
 have HR:Hid (writA e=R.map (·.t)):=by show _=_;rw [←refA_eq,hR];rfl
 obtain ⟨W,hW⟩:∃ W,W=writA e:=⟨_,rfl⟩
 rw [←hW] at HR ⊢
 obtain ⟨p0,p1,p2,p3,p4,pf⟩:=box5 E1
 rw [exV_out] at c2 ⊢
 clear S ho1 Q1 S1 hR hW
 go_enter Tryz.func116,Tryz.ntmps116
 go_upto_region 2 with fail
 rw [←hw1,←hbe]
 have HB:Hid (be=w.heap.size):=hbe
 clear hw1 hbe W1
 go_wp2_with fail
 refine c2.mono ?_
 rintro e2 w2 ⟨rfl,o2,Q2,s2⟩
 have B2:Below be w w2:=below_stepB B1 s2 (fun k hk hi=>by rw [L1 k (by omega)] at hi;rcases hi with h | h <;> omega) (by rw [HB.out];exact Nat.le_refl _)
 have B3:Hid (Below w.heap.size w w2):=by show Below w.heap.size w w2;rw [←HB.out];exact B2
 clear c2 s2 B1 B2 L1 L2 p0 p1 p2 p3 p4 pf E1 HB
 cases R with
 | none =>
  obtain ⟨c3,cf,-,-⟩:=Q2.end
  have c3:w2.cell? ⟨be+1,3,none⟩=some (.bool false):=c3
  have FIN:Hid (W=none):=HR.out
  clear HR Q2
  go_wp2
  go_ret2
  exact ⟨by rw [FIN.out];rfl,B3.out⟩
 | some s =>
  obtain ⟨c3,cf,-,-⟩:=Q2.end
  have c3:w2.cell? ⟨be+1,3,none⟩=some (.bool true):=c3
  obtain ⟨⟨v,hb,hr⟩,-⟩:=Q2
  obtain ⟨d0,d1,d2,d3,df⟩:=Blk.cells4 hb
  have F:=row_text hr
  obtain ⟨aov,capv,rfl⟩:=hr.form
  have FIN:Hid (W=some s.t):=HR.out
  clear HR hb hr d1 d2 d3
  go_wp2
  go_ret2
  exact ⟨by rw [FIN.out];rfl,B3.out⟩
set_option maxRecDepth 100000 in
theorem right_q (e:Ex) (ao:Option Addr) (cap:Nat) (w:World) (he:e.fit) (S:SlT w e.kids ao) :
  Calls Tryz.prog 76 #[exV e ao cap] w fun x w'=>x=.returned (.bool (writA e).isSome)∧Below w.heap.size w w':=by
 have B0:Below w.heap.size w (w.alloc (bxX e ao cap)):=(Below.refl _ w).alloc (Nat.le_refl _) _
 have E0:(w.alloc (bxX e ao cap)).heap[w.heap.size]?=some (bxX e ao cap):=heap_alloc_new w _
 have c1:=print_q e ao cap (w.alloc (bxX e ao cap)) he (SlT.below S B0)
 obtain ⟨p0,p1,p2,p3,p4,pf⟩:=box5 E0
 rw [exV_out] at c1 ⊢
 generalize writA e=W at *
 go_enter Tryz.func76,Tryz.ntmps76
 go_wp2_with fail
 refine c1.mono ?_
 rintro e2 w1 ⟨rfl,b1⟩
 have B1:=B0.trans (b1.mono B0.size)
 clear c1 p0 p1 p2 p3 p4 pf E0
 cases W with
 | none =>
  go_wp2
  go_ret
  exact ⟨rfl,B1⟩
 | some t =>
  go_wp2
  go_ret
  exact ⟨rfl,B1⟩
abbrev tupT (t:Int × Nat × Int):Value:=.tuple #[.int .i64 t.1,.int .i64 (t.2.1:Nat),.int .i64 t.2.2]
theorem writA_ok {e:Ex} (hf:e.fit) {t:List UInt8} (h:writA e=some t):e.okA∧e.kids.size≤2000∧isSetK e.k=false:=by
 unfold writA at h
 by_cases hs:isSetK e.k=true
 ·rw [if_pos hs] at h;cases h
 ·rw [if_neg hs] at h
  cases hh:hE e 0 with
  | none=>rw [hh] at h;cases h
  | some c =>
   obtain ⟨h1,h2,h3⟩:=hE_ok hf hh
   exact ⟨h1,by omega,by simpa using hs⟩
theorem writA_stk {e:Ex} {t:List UInt8} (h:writA e=some t):e.kids.stk (e.k == 21):=by
 unfold writA at h
 split at h
 ·cases h
 ·cases hh:hE e 0 with
  | none=>rw [hh] at h;cases h
  | some c=>exact hE_stk hh
set_option maxRecDepth 100000 in
set_option maxHeartbeats 1000000 in
theorem rcheck_q (e:Ex) (ao:Option Addr) (cap:Nat) (w:World) (hf:e.fit) (S:SlT w e.kids ao) :
  Calls Tryz.prog 46 #[exV e ao cap] w fun x w'=>x=.returned (tupT (typA e))∧Below w.heap.size w w':=by
 obtain ⟨T,hT⟩:∃ T,T=typA e:=⟨_,rfl⟩
 rw [←hT]
 have HT:Hid (T=typA e):=hT
 clear hT
 have B0:Below w.heap.size w (w.alloc (.cells #[.int .i64 e.k,.int .i64 e.n,stv e.nm,.slice ao e.kids.len cap,.int .i64 e.a] 25)):=(Below.refl _ w).alloc (Nat.le_refl _) _
 have E0:(w.alloc (.cells #[.int .i64 e.k,.int .i64 e.n,stv e.nm,.slice ao e.kids.len cap,.int .i64 e.a] 25)).heap[w.heap.size]?=some (.cells #[.int .i64 e.k,.int .i64 e.n,stv e.nm,.slice ao e.kids.len cap,.int .i64 e.a] 25):=heap_alloc_new w _
 have S0:=SlT.below S B0
 rw [exV_out]
 go_enter Tryz.func46,Tryz.ntmps46
 go_upto_region 1 with fail
 generalize w.alloc (.cells #[.int .i64 e.k,.int .i64 e.n,stv e.nm,.slice ao e.kids.len cap,.int .i64 e.a] 25)=w0 at *
 obtain ⟨bx,hbx⟩:∃ bx,bx=w.heap.size:=⟨_,rfl⟩
 rw [←hbx] at E0 B0 ⊢
 have HB:Hid (bx=w.heap.size):=hbx
 clear hbx
 obtain ⟨p0,p1,p2,p3,p4,pf⟩:=box5 E0
 have hbx0:=lt_of_block E0
 have c1:=right_q e ao cap w0 hf S0
 rw [exV_out] at c1
 go_wp2_with fail
 refine c1.mono ?_
 rintro x w1 ⟨rfl,b1⟩
 have E1:=(b1.block _ hbx0).trans E0
 have B1:Below bx w w1:=B0.trans (b1.mono (Nat.le_of_lt hbx0))
 have S1:=SlT.below S0 b1
 clear c1 b1 p0 p1 p2 p3 p4 pf E0 B0 S0 S
 cases hw:writA e with
 | none =>
  have FIN:Hid (T=(0,122,0)):=by show T=_;rw [HT.out];unfold typA;rw [hw]
  simp only [Option.isSome_none]
  clear HT hw
  go_wp2
  refine bodyPost_ret (v:=tupT (0,122,0)) (by simp [results,Tryz.results46,go_sem]) rfl ⟨by rw [FIN.out],?_⟩
  rw [←HB.out]
  exact B1
 | some t =>
  obtain ⟨hok,hsz,hset⟩:=writA_ok hf hw
  have hsk:=writA_stk hw
  simp only [Option.isSome_some]
  have HT2:Hid (T=(match chkE e [] with | .inl (er,a)=>(0,er,a) | .inr k=>(k,0,0))):=by
   show T=_
   rw [HT.out]
   unfold typA
   rw [hw]
   simp only
   cases chkE e [] with
   | inl z=>obtain ⟨er,a⟩:=z;rfl
   | inr k=>rfl
  clear HT hw
  have b2:Below w1.heap.size w1 (w1.alloc (.cells #[.slice none 0 0,.int .i64 0,.int .i64 0] 108)):=(Below.refl _ w1).alloc (Nat.le_refl _) _
  have W2:Wk (w1.alloc (.cells #[.slice none 0 0,.int .i64 0,.int .i64 0] 108)) w1.heap.size (.slice none 0 0) none:=⟨heap_alloc_new w1 _,StOk.none⟩
  have E2:=(b2.block _ (lt_of_block E1)).trans E1
  have B2:=B1.trans (b2.mono (Nat.le_of_lt (lt_of_block E1)))
  have S2:Sl (w1.alloc (.cells #[.slice none 0 0,.int .i64 0,.int .i64 0] 108)) (Nf w1.heap.size) e.kids ao:=S1.mono (fun i _ hl=>b2.block i hl) b2.size (fun i _ hl=>by show i≠_;omega)
  have hwb:bx < w1.heap.size:=lt_of_block E1
  go_upto_region 5 with fail
  generalize w1.alloc (.cells #[.slice none 0 0,.int .i64 0,.int .i64 0] 108)=w2 at *
  generalize w1.heap.size=wb at *
  obtain ⟨p0,p1,p2,p3,p4,pf⟩:=box5 E2
  have c4:=kind_ok (e.kids.size+1) e ao cap wb (.slice none 0 0) [] w2 ⟨by omega,hok,hset,hsk,hf.len,hf.sh,by simp;omega⟩ W2 ⟨Nms.nil w2,fun g off n c h=>by cases h⟩ S2
  rw [exV_out] at c4
  have hwb2:=lt_of_block W2.blk
  clear b2 E1 B1 S1 S2 W2
  go_wp2_with fail
  refine c4.mono ?_
  rintro x w4 ⟨⟨k',rfl,hk'⟩,W4,K4⟩
  have HZ:Hid (Below bx w w4):=B2.trans (K4.below (Nat.le_of_lt hwb) hwb2)
  clear c4 K4 p0 p1 p2 p3 p4 pf
  obtain ⟨q0,q1,q2,qf⟩:=box3 W4.blk
  cases hc:chkE e [] with
  | inl z =>
   obtain ⟨er,a⟩:=z
   have her:=chkE_er hc
   rw [hc] at q1 q2
   simp only [stS,erO,plO] at q1 q2
   have hne:((er:Int) != 0)=true:=by simp;omega
   have FIN:Hid (T=(0,er,a)):=by show T=_;rw [HT2.out,hc]
   clear HT2 hc her hk' W4
   go_wp2_with fail
   go_quiet (fail)
   go_wp2
   refine bodyPost_ret (v:=tupT (0,er,a)) (by simp [results,Tryz.results46,go_sem]) rfl ⟨by rw [FIN.out],?_⟩
   rw [←HB.out]
   exact HZ.out.trans ⟨rfl,rfl,rfl,Nat.le_refl _,fun _ _=>rfl⟩
  | inr k =>
   obtain rfl:=hk' k hc
   rw [hc] at q1 q2
   simp only [stS,erO,plO] at q1 q2
   have FIN:Hid (T=(k',0,0)):=by show T=_;rw [HT2.out,hc]
   clear HT2 hc hk' W4
   go_wp2
   refine bodyPost_ret (v:=tupT (k',0,0)) (by simp [results,Tryz.results46,go_sem]) rfl ⟨by rw [FIN.out],?_⟩
   rw [←HB.out]
   exact HZ.out
def PostOf (w:World) (e:Ex) (x:Ending) (w':World):Prop :=
 if (typA e).2.1=0 then ∃ ay cy,x=.returned (.tuple #[plV (ofE e []) ay cy (.slice none 0 0),.int .i64 0])∧SlN w' (Nw w.heap.size) (ofE e []).kids ay∧Below w.heap.size w w'
 else x=.returned (.tuple #[.agg #[.int .i64 0,.int .i64 0,.string ⟨#[]⟩,.slice none 0 0,.slice none 0 0],.int .i64 140])∧Below w.heap.size w w'
set_option maxRecDepth 100000 in
set_option maxHeartbeats 2000000 in
theorem of14_c (e:Ex) (ao:Option Addr) (cap:Nat) (w:World) (hf:e.fit) (hsz:e.kids.size≤1000000) (S:SlT w e.kids ao) :
  Calls Tryz.prog 22 #[exV e ao cap] w (PostOf w e):=by
 obtain ⟨w0,hw0⟩:∃ w0,w0=(w.alloc (.cells #[.int .i64 e.k,.int .i64 e.n,stv e.nm,.slice ao e.kids.len cap,.int .i64 e.a] 25)).alloc (.cells #[.int .i64 0,.int .i64 0,.string ⟨#[]⟩,.slice none 0 0,.slice none 0 0] 37):=⟨_,rfl⟩
 have B0:Below w.heap.size w w0:=by rw [hw0];exact ((Below.refl _ w).alloc (Nat.le_refl _) _).alloc (by simp) _
 have E0:w0.heap[w.heap.size]?=some (.cells #[.int .i64 e.k,.int .i64 e.n,stv e.nm,.slice ao e.kids.len cap,.int .i64 e.a] 25 (0,0)):=by
  rw [hw0]
  exact (Below.heap_alloc _ _ _ (by simp)).trans (heap_alloc_new w _)
 have Z0:w0.heap[w.heap.size+1]?=some (.cells #[.int .i64 0,.int .i64 0,.string ⟨#[]⟩,.slice none 0 0,.slice none 0 0] 37 (0,0)):=by
  rw [hw0]
  have:=heap_alloc_new (w.alloc (.cells #[.int .i64 e.k,.int .i64 e.n,stv e.nm,.slice ao e.kids.len cap,.int .i64 e.a] 25)) (.cells #[.int .i64 0,.int .i64 0,.string ⟨#[]⟩,.slice none 0 0,.slice none 0 0] 37)
  simpa using this
 have S0:=SlT.below S B0
 have c1:=rcheck_q e ao cap w0 hf S0
 rw [exV_out] at c1 ⊢
 go_enter Tryz.func22,Tryz.ntmps22
 go_upto_region 1 with fail
 rw [←hw0]
 clear hw0
 obtain ⟨n0,hn0⟩:∃ n0,n0=w.heap.size:=⟨_,rfl⟩
 rw [←hn0] at E0 Z0 B0
 try rw [←hn0]
 have HB:Hid (n0=w.heap.size):=hn0
 clear hn0
 obtain ⟨p0,p1,p2,p3,p4,pf⟩:=box5 E0
 have HT:Hid (∀ (x:Ending) (w':World),(if (typA e).2.1=0 then ∃ ay cy,x=.returned (.tuple #[plV (ofE e []) ay cy (.slice none 0 0),.int .i64 0])∧SlN w' (Nw w.heap.size) (ofE e []).kids ay∧Below w.heap.size w w' else x=.returned (.tuple #[.agg #[.int .i64 0,.int .i64 0,.string ⟨#[]⟩,.slice none 0 0,.slice none 0 0],.int .i64 140])∧Below w.heap.size w w')→PostOf w e x w'):=fun x w' h=>h
 generalize typA e=T at *
 obtain ⟨tk,te,tp⟩:=T
 simp only at HT
 go_wp2_with fail
 refine c1.mono ?_
 rintro x w1 ⟨rfl,b1⟩
 have hzl:=lt_of_block Z0
 have E1:=(b1.block _ (lt_of_block E0)).trans E0
 have Z1:=(b1.block _ hzl).trans Z0
 have B1:Below n0 w w1:=B0.trans (b1.mono (by omega))
 have S1:=SlT.below S0 b1
 clear c1 b1 E0 Z0 p0 p1 p2 p3 p4 pf S0 B0
 obtain ⟨p0,p1,p2,p3,p4,pf⟩:=box5 E1
 obtain ⟨z0,z1,z2,z3,z4,zf⟩:=box5 Z1
 simp only [tupT]
 by_cases hte:te=0
 ·have hb:((te:Int) != 0)=false:=by simp [hte]
  have c2:=node_ok (e.kids.size+1) e ao cap [] (.slice none 0 0) w1 (by omega) hf.len hf.sh (by simp;omega) (Nms.nil w1) S1
  rw [exV_out] at c2
  have HT2:Hid (∀ (x:Ending) (w':World),(∃ ay cy,x=.returned (.tuple #[plV (ofE e []) ay cy (.slice none 0 0),.int .i64 0])∧SlN w' (Nw w.heap.size) (ofE e []).kids ay∧Below w.heap.size w w')→PostOf w e x w'):=fun x w' h=>HT.out x w' (by rw [if_pos hte];exact h)
  generalize ofE e []=y at *
  clear HT S1 hte z0 z1 z2 z3 z4 zf
  go_wp2_with fail
  refine c2.mono ?_
  rintro x w2 ⟨ay,cy,rfl,S2,b2⟩
  have Z2:=(b2.block _ (lt_of_block Z1)).trans Z1
  have B2:Below n0 w w2:=B1.trans (b2.mono (by have:=lt_of_block Z1;omega))
  have hz1:=lt_of_block Z1
  have HU:Hid (∃ wz,wz=(((((w2.setCell ⟨n0+1,0,none⟩ (.int .i64 y.k)).setCell ⟨n0+1,1,none⟩ (.int .i64 y.n)).setCell ⟨n0+1,2,none⟩ (stv y.nm)).setCell ⟨n0+1,3,none⟩ (.slice ay y.kids.len cy)).setCell ⟨n0+1,4,none⟩ (.slice none 0 0))∧wz.cell? ⟨n0+1,0,none⟩=some (.int .i64 y.k)∧wz.cell? ⟨n0+1,1,none⟩=some (.int .i64 y.n)∧wz.cell? ⟨n0+1,2,none⟩=some (stv y.nm)∧wz.cell? ⟨n0+1,3,none⟩=some (.slice ay y.kids.len cy)∧wz.cell? ⟨n0+1,4,none⟩=some (.slice none 0 0)∧PostOf w e (.returned (.tuple #[.agg #[.int .i64 y.k,.int .i64 y.n,stv y.nm,.slice ay y.kids.len cy,.slice none 0 0],.int .i64 0])) wz):=by
   obtain ⟨u0,u1,u2,u3,u4,-⟩:=box5 (set5k (.int .i64 y.k) (.int .i64 y.n) (stv y.nm) (.slice ay y.kids.len cy) (.slice none 0 0) Z2)
   refine ⟨_,rfl,u0,u1,u2,u3,u4,HT2.out _ _ ⟨ay,cy,rfl,?_,?_⟩⟩
   ·exact S2.mono (fun k hp _=>heap_set5 w2 (n0+1) k _ _ _ _ _ (by have hp:w1.heap.size≤k:=hp;omega)) (by simp) (fun k hp _=>by have hp:w1.heap.size≤k:=hp;have:=HB.out;show w.heap.size≤k;omega)
   ·rw [←HB.out]
    exact (((((B2.setCell (p:=⟨n0+1,0,none⟩) (Nat.le_succ _) _).setCell (p:=⟨n0+1,1,none⟩) (Nat.le_succ _) _).setCell (p:=⟨n0+1,2,none⟩) (Nat.le_succ _) _).setCell (p:=⟨n0+1,3,none⟩) (Nat.le_succ _) _).setCell (p:=⟨n0+1,4,none⟩) (Nat.le_succ _) _)
  obtain ⟨z0,z1,z2,z3,z4,zf⟩:=box5 Z2
  clear c2 S2 b2 Z2 B2 Z1 E1 B1 p0 p1 p2 p3 p4 pf HT2 hz1
  rw [exN_out]
  go_wp2
  obtain ⟨wz,hwz,v0,v1,v2,v3,v4,PZ⟩:=HU.out
  rw [←hwz]
  exact bodyPost_ret (v:=.tuple #[.agg #[.int .i64 y.k,.int .i64 y.n,stv y.nm,.slice ay y.kids.len cy,.slice none 0 0],.int .i64 0]) (by simp [results,Tryz.results22,go_sem,v0,v1,v2,v3,v4]) rfl PZ
 ·have hb:((te:Int) != 0)=true:=by simp;omega
  have HU:Hid (∃ wz,wz=(((((w1.setCell ⟨n0+1,0,none⟩ (.int .i64 0)).setCell ⟨n0+1,1,none⟩ (.int .i64 0)).setCell ⟨n0+1,2,none⟩ (.string ⟨#[]⟩)).setCell ⟨n0+1,3,none⟩ (.slice none 0 0)).setCell ⟨n0+1,4,none⟩ (.slice none 0 0))∧wz.cell? ⟨n0+1,0,none⟩=some (.int .i64 0)∧wz.cell? ⟨n0+1,1,none⟩=some (.int .i64 0)∧wz.cell? ⟨n0+1,2,none⟩=some (.string ⟨#[]⟩)∧wz.cell? ⟨n0+1,3,none⟩=some (.slice none 0 0)∧wz.cell? ⟨n0+1,4,none⟩=some (.slice none 0 0)∧PostOf w e (.returned (.tuple #[.agg #[.int .i64 0,.int .i64 0,.string ⟨#[]⟩,.slice none 0 0,.slice none 0 0],.int .i64 140])) wz):=by
   obtain ⟨u0,u1,u2,u3,u4,-⟩:=box5 (set5k (.int .i64 0) (.int .i64 0) (.string ⟨#[]⟩) (.slice none 0 0) (.slice none 0 0) Z1)
   refine ⟨_,rfl,u0,u1,u2,u3,u4,HT.out _ _ ?_⟩
   rw [if_neg hte,←HB.out]
   exact ⟨rfl,(((((B1.setCell (p:=⟨n0+1,0,none⟩) (Nat.le_succ _) _).setCell (p:=⟨n0+1,1,none⟩) (Nat.le_succ _) _).setCell (p:=⟨n0+1,2,none⟩) (Nat.le_succ _) _).setCell (p:=⟨n0+1,3,none⟩) (Nat.le_succ _) _).setCell (p:=⟨n0+1,4,none⟩) (Nat.le_succ _) _)⟩
  clear HT hte E1 Z1 B1 S1
  go_wp2
  obtain ⟨wz,hwz,v0,v1,v2,v3,v4,PZ⟩:=HU.out
  rw [←hwz]
  exact bodyPost_ret (v:=.tuple #[.agg #[.int .i64 0,.int .i64 0,.string ⟨#[]⟩,.slice none 0 0,.slice none 0 0],.int .i64 140]) (by simp [results,Tryz.results22,go_sem,v0,v1,v2,v3,v4]) rfl PZ
def Qd {α:Type} (f:List Tk→Rs α) (st:Sq) (X:α) (st':Sq):Prop:=st'=onw f st∧∀ ts y t,st=.inr ts→f ts=.ok y t→X=y
def Nou {α:Type} (f:List Tk→Rs α) (st:Sq):Prop:=∀ ts,st=.inr ts→f ts≠.out
theorem Nou.fst {α β:Type} {f:List Tk→Rs α} {g:α→List Tk→Rs β} {st:Sq} (h:Nou (fun ts=>(f ts).bind g) st):Nou f st:=fun ts hs e=>h ts hs (by show (f ts).bind g=_;rw [e];rfl)
theorem Nou.snd {α β:Type} {f:List Tk→Rs α} {g:α→List Tk→Rs β} {st st':Sq} {x:α} (h:Nou (fun ts=>(f ts).bind g) st) (q:Qd f st x st'):Nou (g x) st':=by
 obtain ⟨rfl,q⟩:=q
 match st with
 | .inl ea=>intro ts hs;cases hs
 | .inr t0 =>
  intro ts hs e
  cases hf:f t0 using Rs.on with
  | out=>exact h t0 rfl (by show (f t0).bind g=_;rw [hf];rfl)
  | bad e2 a=>simp [onw,hf,stp] at hs
  | ok y t =>
   have e1:=q t0 y t rfl hf
   subst e1
   have e2:t=ts:=by simpa [onw,hf,stp] using hs
   subst e2
   exact h t0 rfl (by show (f t0).bind g=_;rw [hf];exact e)
theorem Qd.bind {α β:Type} {f:List Tk→Rs α} {g:α→List Tk→Rs β} {st st1 st':Sq} {x:α} {X:β} (p:Qd f st x st1) (q:Qd (g x) st1 X st'):Qd (fun ts=>(f ts).bind g) st X st':=by
 obtain ⟨rfl,p⟩:=p
 obtain ⟨rfl,q⟩:=q
 match st with
 | .inl ea=>exact ⟨rfl,fun ts y t hs=>by cases hs⟩
 | .inr t0 =>
  cases hf:f t0 using Rs.on with
  | out =>
   refine ⟨by simp [onw,hf,stp,Rs.bind],fun ts y t hs hb=>?_⟩
   cases hs
   have hb:(f t0).bind g=_:=hb
   rw [hf] at hb;cases hb
  | bad e a =>
   refine ⟨by simp [onw,hf,stp,Rs.bind],fun ts y t hs hb=>?_⟩
   cases hs
   have hb:(f t0).bind g=_:=hb
   rw [hf] at hb;cases hb
  | ok y t =>
   have e1:=p t0 y t rfl hf
   subst e1
   refine ⟨by simp [onw,hf,stp,Rs.bind],fun ts z t2 hs hb=>?_⟩
   cases hs
   have hb:(f t0).bind g=_:=hb
   rw [hf] at hb
   exact q t z t2 (by simp [onw,hf,stp]) hb
theorem Qd.ret {α:Type} (X:α) (st:Sq):Qd (fun t=>.ok X t) st X st:=by
 match st with
 | .inl ea=>exact ⟨rfl,fun ts y t hs=>by cases hs⟩
 | .inr t0=>exact ⟨rfl,fun ts y t hs hb=>(Rs.ok_inj hb).1⟩
theorem Qd.any {α:Type} [Inhabited α] (f:List Tk→Rs α) (st:Sq):∃ X,Qd f st X (onw f st):=by
 match st with
 | .inl ea=>exact ⟨default,rfl,fun ts y t hs=>by cases hs⟩
 | .inr t0 =>
  cases hf:f t0 using Rs.on with
  | out=>exact ⟨default,rfl,fun ts y t hs hb=>by cases hs;rw [hf] at hb;cases hb⟩
  | bad e a=>exact ⟨default,rfl,fun ts y t hs hb=>by cases hs;rw [hf] at hb;cases hb⟩
  | ok y t=>exact ⟨y,rfl,fun ts z t2 hs hb=>by cases hs;rw [hf] at hb;exact (Rs.ok_inj hb).1⟩
theorem Qd.congr {α:Type} {f g:List Tk→Rs α} {st st':Sq} {X:α} (h:Qd f st X st') (e:∀ ts,st=.inr ts→f ts=g ts):Qd g st X st':=by
 obtain ⟨rfl,h⟩:=h
 match st with
 | .inl ea=>exact ⟨rfl,fun ts y t hs=>by cases hs⟩
 | .inr t0=>exact ⟨by simp only [onw];rw [e t0 rfl],fun ts y t hs hb=>by rw [←e ts hs] at hb;exact h ts y t hs hb⟩
theorem Nou.congr {α:Type} {f g:List Tk→Rs α} {st:Sq} (h:Nou f st) (e:∀ ts,st=.inr ts→f ts=g ts):Nou g st:=fun ts hs=>by rw [←e ts hs];exact h ts hs
def PostQ (rb:Nat) (all:List Tk) (o q:Nat) (w:World) (st:Sq) (f:List Tk→Rs Ex) (e:Ending) (w':World):Prop :=
 ∃ X ao cap st',e=.returned (exV X ao cap)∧Sl w' (Nw w.heap.size) X.kids ao∧QS w' rb all o q st'∧Keep rb w w'∧Qd f st X st'
def RecQ (rec:Rdr):Prop :=
 ∀ (w:World) (rb:Nat) (all:List Tk) (row o q:Nat) (st:Sq),(∀ x,x ∈ all→TokI x)→1≤row→row≤7→QS w rb all o q st→Nou (rec row o q) st→Calls Tryz.prog 31 #[.pointer (some ⟨rb,0,none⟩),.int .i64 (row:Nat)] w (PostQ rb all o q w st (rec row o q))
theorem QS.alloc {w:World} {rb o q:Nat} {all:List Tk} {st:Sq} (h:QS w rb all o q st) (ob:Obj):QS (w.alloc ob) rb all o q st:=h.below ((Below.refl _ w).alloc (Nat.le_refl _) ob)
theorem Rq.setP {w:World} {rb i:Nat} {o q:Int} {er pl:Nat} {all:List Tk} (h:Rq w rb i o q er pl all) (p:Addr) (v:Value) (hp:rb < p.block):Rq (w.setCell p v) rb i o q er pl all:=by
 obtain ⟨g,cap,h1,h2,h4,h5⟩:=h
 exact ⟨g,cap,(heap_setCell_other w p rb v (by omega)).trans h1,h2,fun j u hu=>(World.cell?_of_block (a:=⟨g,j,none⟩) (heap_setCell_other w p g v (by omega))).trans (h4 j u hu),h5⟩
theorem QS.setP {w:World} {rb o q:Nat} {all:List Tk} {st:Sq} (h:QS w rb all o q st) (p:Addr) (v:Value) (hp:rb < p.block):QS (w.setCell p v) rb all o q st:=by
 match st,h with
 | .inl (er,a),⟨i,o',q',h1,h2⟩=>exact ⟨i,o',q',h1.setP p v hp,h2⟩
 | .inr ts,⟨i,pl,h1,h2⟩=>exact ⟨i,pl,h1.setP p v hp,h2⟩
theorem QS.set5 {w:World} {rb o q:Nat} {all:List Tk} {st:Sq} (h:QS w rb all o q st) {b:Nat} (hb:rb < b) (b0 b1 b2 b3 b4:Value):QS (((((w.setCell ⟨b,0,none⟩ b0).setCell ⟨b,1,none⟩ b1).setCell ⟨b,2,none⟩ b2).setCell ⟨b,3,none⟩ b3).setCell ⟨b,4,none⟩ b4) rb all o q st:=((((h.setP ⟨b,0,none⟩ b0 hb).setP ⟨b,1,none⟩ b1 hb).setP ⟨b,2,none⟩ b2 hb).setP ⟨b,3,none⟩ b3 hb).setP ⟨b,4,none⟩ b4 hb
theorem opens_s {w:World} {rb o q:Nat} {all:List Tk} {x:Tk} {r:List Tk} (s:List UInt8) (hs:s≠[]) (hx:x.t=s) (h:QS w rb all o q (.inr (x :: r))) :
  Calls Tryz.prog 95 #[.pointer (some ⟨rb,0,none⟩)] w fun e w'=>e=.returned (.tuple #[])∧QS w' rb all (o+1) q (onw (enterT s o) (.inr (x :: r)))∧Keep rb w w':=by
 by_cases h64:o=64
 ·subst h64
  have e1:onw (enterT s 64) (.inr (x :: r))=.inl (121,x.a):=by simp [onw,enterT,hx,stp]
  rw [e1]
  exact open_no h
 ·have e1:onw (enterT s o) (.inr (x :: r))=.inr r:=by simp [onw,enterT,hx,stp,h64]
  rw [e1]
  exact open_ok (by have:=h.le.1;omega) (by rw [hx];exact hs) h
theorem enter_q {o:Nat} {x:Tk} {r:List Tk} (s:List UInt8):Qd (enterT s o) (.inr (x :: r)) x.a (onw (enterT s o) (.inr (x :: r))):=by
 refine ⟨rfl,fun ts y t hs hb=>?_⟩
 cases hs
 unfold enterT at hb
 by_cases hx:x.t=s
 ·by_cases h64:o=64
  ·simp [hx,h64] at hb
  ·simp [hx,h64] at hb;exact hb.1
 ·simp [hx] at hb
def Ctx {β:Type} (F:List Tk→Rs β) (st0:Sq) (G:List Tk→Rs β) (st:Sq):Prop:=Nou G st∧∀ X st',Qd G st X st'→Qd F st0 X st'
theorem Ctx.start {β:Type} {F:List Tk→Rs β} {st:Sq} (h:Nou F st):Ctx F st F st:=⟨h,fun _ _ q=>q⟩
theorem Ctx.nou {α β:Type} {F:List Tk→Rs β} {st0 st:Sq} {f:List Tk→Rs α} {g:α→List Tk→Rs β} (h:Ctx F st0 (fun ts=>(f ts).bind g) st):Nou f st:=h.1.fst
theorem Ctx.step {α β:Type} {F:List Tk→Rs β} {st0 st st1:Sq} {f:List Tk→Rs α} {g:α→List Tk→Rs β} {x:α} (h:Ctx F st0 (fun ts=>(f ts).bind g) st) (q:Qd f st x st1):Ctx F st0 (g x) st1:=⟨h.1.snd q,fun X st' q2=>h.2 X st' (q.bind q2)⟩
theorem Ctx.fin {β:Type} {F:List Tk→Rs β} {st0 st:Sq} {X:β} (h:Ctx F st0 (fun t=>.ok X t) st):Qd F st0 X st:=h.2 X st (Qd.ret X st)
def PostV (rb:Nat) (all:List Tk) (o q:Nat) (w:World) (st:Sq) (f:List Tk→Rs Nat) (e:Ending) (w':World):Prop :=
 ∃ X st',e=.returned (.tuple #[])∧QS w' rb all o q st'∧Keep rb w w'∧Qd f st X st'
theorem postV {rb:Nat} {all:List Tk} {o q:Nat} {w:World} {st:Sq} (f:List Tk→Rs Nat) {e:Ending} {w':World} (h:e=.returned (.tuple #[])∧QS w' rb all o q (onw f st)∧Keep rb w w'):PostV rb all o q w st f e w':=by
 obtain ⟨X,hX⟩:=Qd.any f st
 exact ⟨X,_,h.1,h.2.1,h.2.2,hX⟩
theorem take_v {w:World} {rb o q:Nat} {all:List Tk} {st:Sq} (TI:∀ x,x ∈ all→TokI x) (s:List UInt8) (hs:s≠[]∧nameB s=false) (h:QS w rb all o q st) :
  Calls Tryz.prog 178 #[.pointer (some ⟨rb,0,none⟩),stv s] w (PostV rb all o q w st (passT s)):=(take_s TI s hs.1 hs.2 h).mono fun _ _ hh=>postV _ hh
theorem close_v {w:World} {rb o q:Nat} {all:List Tk} {st:Sq} (TI:∀ x,x ∈ all→TokI x) (s:List UInt8) (hs:s≠[]∧nameB s=false) (h:QS w rb all (o+1) q st) :
  Calls Tryz.prog 136 #[.pointer (some ⟨rb,0,none⟩),stv s] w (PostV rb all o q w st (passT s)):=(close_s TI s hs.1 hs.2 h).mono fun _ _ hh=>postV _ hh
theorem bracket_v {w:World} {rb o q:Nat} {all:List Tk} {st:Sq} (TI:∀ x,x ∈ all→TokI x) (s:List UInt8) (hs:s≠[]∧nameB s=false) (h:QS w rb all o q st) :
  Calls Tryz.prog 135 #[.pointer (some ⟨rb,0,none⟩),stv s] w (PostV rb all (o+1) q w st (enterT s o)):=(bracket_s TI s hs.1 hs.2 h).mono fun _ _ hh=>by
 obtain ⟨X,hX⟩:=Qd.any (enterT s o) st
 exact ⟨X,_,hh.1,hh.2.1,hh.2.2,hX⟩
end Go.Proofs.YtaihhnlfcndecaaGreatDoor
