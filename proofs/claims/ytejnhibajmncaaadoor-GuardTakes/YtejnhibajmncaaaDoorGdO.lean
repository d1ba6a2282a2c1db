import Derived.Test.YtejnhibajmncaaaDoorGdL
import Derived.Lib.TrailingZeros
import Derived.Shelf.Spec.TrailingZeros
set_option maxRecDepth 100000
set_option maxHeartbeats 8000000
namespace Go.Proofs.YtejnhibajmncaaaDoor
open Go.ChangeShapes Go.WideShapes Go.ChangeAt Go.RowKit
set_option linter.unusedVariables false
set_option linter.unusedSimpArgs false
def VwD (v:Vw):Prop:=∀ i,v.tb.getD i none=none->v.dn.getD i false=false
theorem come_d {q:Nat}{s:StG}{v:Vw}(D:VwD v):VwD (come q s v).2:=by
 unfold come;split
 ·exact D
 ·exact D
 ·intro i hi
  dsimp only at hi ⊢
  apply D i;rw[List.getD_eq_getElem?_getD,List.getElem?_set] at hi;rw[List.getD_eq_getElem?_getD];split at hi
  ·split at hi
   ·simp at hi
   ·rw[List.getElem?_eq_none (by omega)];rfl
  ·exact hi
theorem halt_d {s:StG}{v:Vw}(D:VwD v):VwD (haltF s v).2:=by
 unfold haltF;split
 ·split
  ·exact D
  ·exact D
 ·exact D
theorem go_d {o a b k:Nat}{s d:StG}{v:Vw}(D:VwD v):VwD (goF o a b k s d v).2:=by
 have H:VwD (if o=13 then (0,v) else come (k+1) s v).2:=by
  split
  ·exact D
  ·exact come_d D
 unfold goF;generalize (if o=13 then (0,v) else come (k+1) s v)=r at *;split
 ·cases ledTo o a b with
  | none=>exact H
  | some q=>exact come_d H
 ·exact H
theorem lookW_d {c:Cd}{o a b k:Nat}{s:StG}{v:Vw}(D:VwD v):VwD (lookW c o a b k s v).2:=by
 unfold lookW;split
 ·exact halt_d D
 ·split
  ·exact D
  ·split
   ·exact D
   ·exact go_d D
theorem mark_d {k:Nat}{v:Vw}(D:VwD v)(hw:waits v k=true):VwD (markF k v):=by
 intro i hi;have h:=D i hi;show (v.dn.set k true).getD i false=false;rw[List.getD_eq_getElem?_getD,List.getElem?_set];split
 ·rename_i e
  subst e;exfalso;unfold waits at hw;have hi':v.tb.getD k none=none:=hi;rw[hi'] at hw;simp at hw
 ·rw[List.getD_eq_getElem?_getD] at h;exact h
theorem new_d {n:Nat}:VwD (newF n):=by
 intro i _;show (List.replicate n false).getD i false=false;rw[List.getD_eq_getElem?_getD,List.getElem?_replicate];split<;>rfl
theorem waits_mark {k i:Nat}{v:Vw}(hk:k<v.dn.length):waits (markF k v) i=(waits v i&&!decide (i=k)):=by
 show ((v.tb.getD i none).isSome&&!((v.dn.set k true).getD i false))=_;unfold waits;by_cases e:i=k
 ·subst e;rw[List.getD_eq_getElem?_getD (l:=v.dn.set i true),List.getElem?_set,if_pos rfl,if_pos hk];simp
 ·rw[List.getD_eq_getElem?_getD (l:=v.dn.set k true),List.getElem?_set,if_neg (fun x=>e x.symm),<-List.getD_eq_getElem?_getD];simp[e]
theorem waits_come {q i:Nat}{s:StG}{v:Vw}{x y z:Nat}(D:VwD v)(hq:v.tb[q]?=some none):waits ⟨v.tb.set q (some s),v.dn,x,y,z⟩ i=(waits v i||decide (i=q)):=by
 have hql:q<v.tb.length:=(List.getElem?_eq_some_iff.1 hq).1;show (((v.tb.set q (some s)).getD i none).isSome&&!(v.dn.getD i false))=_;unfold waits;by_cases e:i=q
 ·subst e;rw[List.getD_eq_getElem?_getD (l:=v.tb.set i (some s)),List.getElem?_set,if_pos rfl,if_pos hql,D i (by rw[List.getD_eq_getElem?_getD,hq];rfl)];simp
 ·rw[List.getD_eq_getElem?_getD (l:=v.tb.set q (some s)),List.getElem?_set,if_neg (fun x=>e x.symm),<-List.getD_eq_getElem?_getD];simp[e]
def bitsN (f:Nat->Bool):Nat->Nat
 | 0=>0
 | n+1=>bitsN f n+if f n=true then 2 ^ n else 0
theorem bitsN_lt (f:Nat->Bool):∀ n,bitsN f n<2 ^ n
 | 0=>by simp[bitsN]
 | n+1=>by
  have:=bitsN_lt f n
  rw[bitsN,Nat.pow_succ];split<;>omega
theorem bitsN_bit (f:Nat->Bool):∀ n i,(bitsN f n).testBit i=(decide (i<n)&&f i)
 | 0,i=>by simp[bitsN]
 | n+1,i=>by
  have hl:=bitsN_lt f n;rw[bitsN];by_cases hf:f n=true
  ·rw[if_pos hf];by_cases e:i=n
   ·subst e;rw[Nat.add_comm,Nat.testBit_two_pow_add_eq,bitsN_bit f i i,hf];simp
   ·rcases Nat.lt_or_gt_of_ne e with h|h
    ·rw[Nat.add_comm,Nat.testBit_two_pow_add_gt h,bitsN_bit f n i];simp[h,Nat.lt_succ_of_lt h]
    ·rw[Nat.testBit_lt_two_pow (Nat.lt_of_lt_of_le (show bitsN f n+2 ^ n<2 ^ (n+1) by rw[Nat.pow_succ];omega) (Nat.pow_le_pow_right (by decide) (by omega)))];simp;omega
  ·rw[if_neg hf,Nat.add_zero,bitsN_bit f n i];by_cases e:i=n
   ·subst e;simp[hf]
   ·have:(i<n ↔ i<n+1):=by omega
    simp[this]
abbrev topG:Nat:=18446744073709551616
def wtN (v:Vw)(j:Nat):Nat:=bitsN (fun i=>waits v (64*j+i)) 64
theorem wtN_lt (v:Vw)(j:Nat):wtN v j<topG:=bitsN_lt _ 64
theorem wtN_bit (v:Vw)(j i:Nat):(wtN v j).testBit i=(decide (i<64)&&waits v (64*j+i)):=bitsN_bit _ 64 i
theorem wtN_none {v:Vw}{j:Nat}(h:wtN v j=0):∀ i,i<64->waits v (64*j+i)=false:=fun i hi=>by
 have:=wtN_bit v j i
 rw[h,Nat.zero_testBit,decide_eq_true hi,Bool.true_and] at this;exact this.symm
theorem wtN_come {q j:Nat}{s:StG}{v:Vw}{x y z:Nat}(D:VwD v)(hq:v.tb[q]?=some none):wtN ⟨v.tb.set q (some s),v.dn,x,y,z⟩ j=if j=q / 64 then wtN v j ||| 2 ^ (q % 64) else wtN v j:=by
 apply Nat.eq_of_testBit_eq;intro i;rw[wtN_bit,waits_come D hq];by_cases e:j=q / 64
 ·rw[if_pos e,Nat.testBit_or,wtN_bit,Nat.testBit_two_pow];by_cases hi:i<64
  ·have h2:(64*j+i=q ↔ q % 64=i):=by omega
   simp[hi,h2]
  ·have h3:¬q % 64=i:=by omega
   simp[hi,h3]
 ·rw[if_neg e,wtN_bit];by_cases hi:i<64
  ·have h2:¬(64*j+i=q):=by omega
   simp[hi,h2]
  ·simp[hi]
theorem pow_mul_bitg (c m i:Nat):(2 ^ c*(2*m+1)).testBit i=(decide (c<=i)&&(2*m+1).testBit (i-c)):=by
 rw[Nat.testBit_two_pow_mul]
theorem ctz_bitg (z:Nat)(h0:z≠0)(hz:z<topG):z.testBit (Lib.ctz 64 z)=true/\(∀ i,i<Lib.ctz 64 z->z.testBit i=false)/\Lib.ctz 64 z<64:=by
 obtain⟨m,h1,h2⟩:=Lib.ctzFrom_spec 64 z (by omega) hz;have e:Lib.ctz 64 z=Lib.ctzFrom 64 z:=by unfold Lib.ctz;rw[if_neg h0]
 rw[e];generalize Lib.ctzFrom 64 z=c at *;subst h1;refine⟨?_,fun i hi=>?_,h2⟩
 ·rw[pow_mul_bitg];simp
 ·rw[pow_mul_bitg,decide_eq_false (by omega)];rfl
theorem and_pred (z:Nat)(h0:z≠0)(hz:z<topG)(i:Nat):(z &&& (z-1)).testBit i=(z.testBit i&&!decide (i=Lib.ctz 64 z)):=by
 obtain⟨m,h1,h2⟩:=Lib.ctzFrom_spec 64 z (by omega) hz;have e:Lib.ctz 64 z=Lib.ctzFrom 64 z:=by unfold Lib.ctz;rw[if_neg h0]
 rw[e];generalize Lib.ctzFrom 64 z=c at *;have hz2:z=2 ^ (c+1)*m+2 ^ c:=by rw[h1,Nat.mul_add,Nat.pow_succ,<-Nat.mul_assoc,Nat.mul_one]
 have hp:0<2 ^ c:=Nat.pow_pos (by decide);have hz3:z-1=2 ^ (c+1)*m+(2 ^ c-1):=by omega
 have hlt1:2 ^ c<2 ^ (c+1):=by rw[Nat.pow_succ];omega
 rw[Nat.testBit_and,hz3,hz2,Nat.testBit_two_pow_mul_add _ hlt1,Nat.testBit_two_pow_mul_add _ (by omega:2 ^ c-1<2 ^ (c+1))];by_cases hi:i<c+1
 ·rw[if_pos hi,if_pos hi,Nat.testBit_two_pow,Nat.testBit_two_pow_sub_one];by_cases hic:c=i
  ·subst hic;simp
  ·have:¬i=c:=fun x=>hic x.symm
   simp[hic]
 ·rw[if_neg hi,if_neg hi]
  have:¬i=c:=by omega
  simp[this]
theorem wtN_mark {j c:Nat}{v:Vw}(h0:wtN v j≠0)(hc:c=Lib.ctz 64 (wtN v j))(hk:64*j+c<v.dn.length)(i:Nat) :
  wtN (markF (64*j+c) v) i=if i=j then wtN v j &&& (wtN v j-1) else wtN v i:=by
 have hl:=(ctz_bitg _ h0 (wtN_lt v j)).2.2;rw[<-hc] at hl;apply Nat.eq_of_testBit_eq;intro t;rw[wtN_bit,waits_mark hk];by_cases e:i=j
 ·subst e;rw[if_pos rfl,and_pred _ h0 (wtN_lt v i),<-hc,wtN_bit];by_cases ht:t<64
  ·have h2:(64*i+t=64*i+c ↔ t=c):=by omega
   simp[ht,h2]
  ·simp[ht]
 ·rw[if_neg e,wtN_bit];by_cases ht:t<64
  ·have h2:¬64*i+t=64*j+c:=by omega
   simp[ht,h2]
  ·simp[ht]
def Tzg (w:World):Prop:=TabAt 0 Lib.deBruijn64tab w/\0<w.heap.size
theorem Tzg.below {w w':World}(h:Tzg w)(b:Below w.heap.size w w'):Tzg w' :=
 ⟨fun j hj=>(b.cell (p:=⟨0,j,none⟩) h.2).trans (h.1 j hj),Nat.lt_of_lt_of_le h.2 b.size⟩
theorem tz_coreg (x k idx:Nat)(w:World)(hx0:((x:Int)==0)=false)
  (key:IntKind.u64.wrap (bits BinOp.and IntKind.u64 (x:Int) (IntKind.u64.wrap (-(x:Int)))*285870213051353865) / 288230376151711744=(idx:Int))
  (hi:idx<64) (hk:k<64) (hcell:w.cell? ⟨0,idx,none⟩=some (.int .u8 k)) :
  Calls Tryd.prog 36 #[.int .u64 x] w fun e w'=>e=.returned (.int .i64 k)/\w'=w:=by
 go_enter Tryd.func36,Tryd.ntmps36;go_wp2_with (simp only[key]);go_ret;exact⟨rfl,rfl⟩
theorem tz_cg (x:Nat)(w:World)(hx:x<topG)(hx0:x≠0)(hT:Tzg w) :
  Calls Tryd.prog 36 #[.int .u64 x] w fun e w'=>e=.returned (.int .i64 (Lib.ctz 64 x))/\w'=w:=by
 obtain⟨hlow,hk⟩:=Lib.lowest_bit 64 x hx0 hx;obtain⟨hi,htab⟩:=Lib.deBruijn64_at _ hk;have hcell:=hT.1 _ hi;rw[htab] at hcell;exact tz_coreg x _ _ w (by simp;omega) (tz64_key x _ hx hx0 hlow) hi hk hcell
structure Vp where
 gs:Nat
 cs:Nat
 gw:Nat
 cw:Nat
def ptV (pb:Nat->Nat)(v:Vw):List Value:=(List.range v.tb.length).map fun i=>if (v.tb.getD i none).isSome=true then .pointer (some ⟨pb i,0,none⟩) else .pointer none
def wtV (v:Vw)(m:Nat):List Value:=(List.range m).map fun j=>.int .u64 (wtN v j:Nat)
abbrev vwA (p:Pl)(c:Cd)(z:Vp)(n m:Nat)(st rd kd:Nat):Array Value:=#[.slice p.aw c.ws.length p.cw,.slice p.ac c.cs.length p.cc,.slice p.an c.ns.length p.cn,.slice p.ak c.ks.length p.ck,.slice (some ⟨z.gs,0,none⟩) n z.cs,.slice (some ⟨z.gw,0,none⟩) m z.cw,.int .i64 (st:Nat),.int .i64 (rd:Nat),.int .i64 (kd:Nat)]
abbrev mG (n:Nat):Nat:=(n+63) / 64
structure VwM (w:World)(o:Nat->Nat)(vb:Nat)(z:Vp)(p:Pl)(c:Cd)(v:Vw)(pb:Nat->Nat):Prop where
 blk:Blk w o 1 vb (.cells (vwA p c z v.tb.length (mG v.tb.length) v.st v.rd v.kd) 66)
 rs:Row w o 2 86 1 (.slice (some ⟨z.gs,0,none⟩) v.tb.length z.cs) v.tb.length (ptV pb v)
 rw:Row w o 3 54 1 (.slice (some ⟨z.gw,0,none⟩) (mG v.tb.length) z.cw) (mG v.tb.length) (wtV v (mG v.tb.length))
 sb:∀ (i:Nat) (s:StG),v.tb[i]?=some (some s)->StB w (pb i) s/\o (pb i)=4
theorem VwM.step {I:Nat->Prop}{w w':World}{o o':Nat->Nat}{vb:Nat}{z:Vp}{p:Pl}{c:Cd}{v:Vw}{pb:Nat->Nat}(h:VwM w o vb z p c v pb)(s:Step I w o w' o')(h1:¬I 1)(h2:¬I 2)(h3:¬I 3)(h4:¬I 4):VwM w' o' vb z p c v pb :=
 ⟨h.blk.step s h1,h.rs.step s h2,h.rw.step s h3,fun i t ht=>by
  obtain⟨a,b⟩:=h.sb i t ht;exact⟨(s.block _ a.lt (by rw[b];exact h4)).trans a,(s.lab _ a.lt).trans b⟩⟩
theorem ptV_len (pb:Nat->Nat)(v:Vw):(ptV pb v).length=v.tb.length:=by simp[ptV]
theorem ptV_at {pb:Nat->Nat}{v:Vw}{i:Nat}(h:i<v.tb.length):(ptV pb v)[i]?=some (if (v.tb.getD i none).isSome=true then .pointer (some ⟨pb i,0,none⟩) else .pointer none):=by simp[ptV,h]
theorem wtV_at {v:Vw}{m j:Nat}(h:j<m):(wtV v m)[j]?=some (.int .u64 (wtN v j:Nat)):=by simp[wtV,h]
theorem cells9 {w:World}{b:Nat}{a0 a1 a2 a3 a4 a5 a6 a7 a8:Value}{t:TypeId}(h:w.heap[b]?=some (.cells #[a0,a1,a2,a3,a4,a5,a6,a7,a8] t (0,0))) :
  (w.cell? ⟨b,0,none⟩=some a0/\w.cell? ⟨b,1,none⟩=some a1/\w.cell? ⟨b,2,none⟩=some a2/\w.cell? ⟨b,3,none⟩=some a3/\w.cell? ⟨b,4,none⟩=some a4/\w.cell? ⟨b,5,none⟩=some a5/\w.cell? ⟨b,6,none⟩=some a6/\w.cell? ⟨b,7,none⟩=some a7/\w.cell? ⟨b,8,none⟩=some a8)/\∀ j,w.frozen? ⟨b,j,none⟩=false:=by
 refine⟨⟨?_,?_,?_,?_,?_,?_,?_,?_,?_⟩,fun j=>frozen_of_row w b j _ t h⟩<;>(rw[cell_of_row w b _ _ t (0,0) h];rfl)
theorem stepNg {I:Nat->Prop}{w w':World}{o:Nat->Nat}{i:Nat}(h:Below w.heap.size w w'):Step I w o w' (newLab w o i):=⟨h.os,h.tape,h.output,h.size,fun k hk=>newLab_old hk,fun k hk _=>h.block k hk⟩
abbrev I13 (k:Nat):Prop:=k=1\/k=2\/k=3
def PostV (w:World)(o:Nat->Nat)(vb:Nat)(z:Vp)(p:Pl)(c:Cd)(r:Nat × Vw)(e:Ending)(w':World):Prop :=
 e=.returned (.int .i64 (r.1:Nat))/\∃o' pb',VwM w' o' vb z p c r.2 pb'/\Step I13 w o w' o'
theorem come_c (w:World)(o:Nat->Nat)(vb:Nat)(z:Vp)(p:Pl)(c:Cd)(v:Vw)(pb:Nat->Nat)(n q:Nat)(s:StG)(V:VwOk n v)(D:VwD v)(S:StOkG s)(hn:n<=32768)(hq:q<=268435456)(hM:VwM w o vb z p c v pb) :
  Calls Tryd.prog 35 #[.pointer (some ⟨vb,0,none⟩),.int .i64 (q:Nat),.agg (stC s).toArray] w (PostV w o vb z p c (come q s v)):=by
 obtain⟨nb,hnb⟩:∃nb,nb=w.heap.size:=⟨_,rfl⟩
 obtain⟨w1,hw1⟩:∃w1,w1=w.alloc (.cells (stC s).toArray 81):=⟨_,rfl⟩
 have B1:Below w.heap.size w w1:=by rw[hw1];exact bG _ _
 have hS1:StB w1 nb s:=by rw[hw1,hnb];exact h1G _ _
 obtain⟨o1,ho1⟩:∃o1,o1=newLab w o 4:=⟨_,rfl⟩
 have hol:o1 nb=4:=by rw[ho1,hnb];exact newLab_new (Nat.le_refl _)
 have S1:∀ {I:Nat->Prop},Step I w o w1 o1:=fun {I}=>by rw[ho1];exact stepNg B1
 have M1:=hM.step (S1 (I:=fun _=>False)) (fun h=>h) (fun h=>h) (fun h=>h) (fun h=>h);have hcl:=stC_len s;have c32:=(blk_cell hS1 32).trans (stC_ht s);have c33:=(blk_cell hS1 33).trans (stC_rd s);obtain⟨⟨a0,a1,a2,a3,a4,a5,a6,a7,a8⟩,af⟩:=cells9 M1.blk.1;have hN:=V.tl;have HNB:=Lib.hid hnb;clear hnb;generalize hcs:(stC s).toArray=cs at *;by_cases hlt:q<v.tb.length
 ·have hltI:(q:Int)<(v.tb.length:Int):=by omega
  have hptq:=(ptV_at (pb:=pb) hlt)
  obtain⟨gs',cs',hgs,hgl,-,-,hgs1,hgc,hgf⟩:=M1.rs.pos (by omega);simp only[Value.slice.injEq,Option.some.injEq,Addr.mk.injEq,and_true,true_and] at hgs;obtain⟨rfl,rfl⟩:=hgs;have cq:=(hgc q (by omega)).trans hptq;have fq:=hgf q;cases htb:v.tb[q]? with
  | none=>exfalso;rw[List.getElem?_eq_getElem hlt] at htb;cases htb
  | some x =>
   have hgd:v.tb.getD q none=x:=by rw[List.getD_eq_getElem?_getD,htb];rfl
   rw[hgd] at cq;cases x with
   | some t =>
    obtain⟨hT1,hT2⟩:=M1.sb q t htb;have hSame:=same_cG (pb q) nb t s w1 (V.sts q t htb) S hT1 hS1;have hcm:come q s v=(if t=s then 0 else 202,v):=by unfold come;rw[htb]
    simp only[Option.isSome_some,if_true] at cq;have HZ:Hid (∀ w2,Below w1.heap.size w1 w2->PostV w o vb z p c (come q s v) (.returned (.int .i64 ((if t=s then 0 else 202:Nat):Nat))) w2):=fun w2 B2=>by
     rw[hcm];exact⟨rfl,newLab w1 o1 0,pb,M1.step (stepNg (I:=fun _=>False) B2) (fun h=>h) (fun h=>h) (fun h=>h) (fun h=>h),S1.trans (stepNg B2)⟩
    clear hgc hgf hgl hgs1 hT1 hT2 hcm hS1 M1 S1 hM B1 c32 c33 hptq hgd htb;generalize come q s v=R at *;generalize pb q=bq at *;by_cases e:t=s
    ·rw[if_pos e] at HZ;rw[decide_eq_true e] at hSame;clear e;go_enter Tryd.func35,Tryd.ntmps35;go_upto_region 1 with fail;rw[<-hw1,<-HNB.out];clear hw1;go_wp2_with (first|(go_at_call 56;refine hSame.mono ?_;rintro e w2 ⟨rfl,B2⟩));go_ret;exact HZ.out w2 B2
    ·rw[if_neg e] at HZ;rw[decide_eq_false e] at hSame;clear e;go_enter Tryd.func35,Tryd.ntmps35;go_upto_region 1 with fail;rw[<-hw1,<-HNB.out];clear hw1;go_wp2_with (first|(go_at_call 56;refine hSame.mono ?_;rintro e w2 ⟨rfl,B2⟩));go_ret;exact HZ.out w2 B2
   | none =>
    have hcm:come q s v=(0,⟨v.tb.set q (some s),v.dn,max v.st s.1.length,max v.rd s.2,v.kd⟩):=by unfold come;rw[htb]
    have hwc:=fun j=>wtN_come (j:=j) (s:=s) (x:=max v.st s.1.length) (y:=max v.rd s.2) (z:=v.kd) D htb;obtain⟨nv,hnv⟩:∃nv:Vw,nv=⟨v.tb.set q (some s),v.dn,max v.st s.1.length,max v.rd s.2,v.kd⟩:=⟨_,rfl⟩
    rw[<-hnv] at hcm hwc;have nl:nv.tb.length=v.tb.length:=by rw[hnv];simp
    obtain⟨gw',cw',hgw,hwl,-,-,hgw1,hwcl,hwf⟩:=M1.rw.pos (by unfold mG;omega);simp only[Value.slice.injEq,Option.some.injEq,Addr.mk.injEq,and_true,true_and] at hgw;obtain⟨rfl,rfl⟩:=hgw;have cw:=(hwcl (q / 64) (by unfold mG;omega)).trans (wtV_at (by unfold mG;omega));have fw:=hwf (q / 64);obtain⟨nw,hnw⟩:∃nw,nw=wtN v (q / 64) ||| 2 ^ (q % 64):=⟨_,rfl⟩
    have hwn:=wtN_lt v (q / 64);have hpw:(2:Nat) ^ (q % 64)<topG:=Nat.pow_lt_pow_right (by decide) (by omega:q % 64<64);have e1:bits .or .u64 ((wtN v (q / 64):Nat):Int) ((2 ^ (q % 64):Nat):Int)=(nw:Int):=by rw[u64_or_nat _ _ hwn hpw,hnw]
    have e2:IntKind.u64.wrap ((2:Int) ^ (q % 64))=((2 ^ (q % 64):Nat):Int):=by
     have h:((2:Int) ^ (q % 64))=((2 ^ (q % 64):Nat):Int):=by simp
     rw[h,IntKind.wrap_u64];generalize 2 ^ (q % 64)=pw at *;unfold topG at hpw;omega
    -- the worlds
    obtain⟨w2,hw2⟩:∃w2,w2=w1.setCell ⟨z.gs,q,none⟩ (.pointer (some ⟨nb,0,none⟩)):=⟨_,rfl⟩
    obtain⟨w3,hw3⟩:∃w3,w3=(w2.setCell ⟨z.gw,q / 64,none⟩ (.int .u64 (nw:Nat))).drew:=⟨_,rfl⟩
    obtain⟨w4,hw4⟩:∃w4,w4=(w3.setCell ⟨vb,6,none⟩ (.int .i64 ((max v.st s.1.length:Nat):Nat))).drew:=⟨_,rfl⟩
    obtain⟨w5,hw5⟩:∃w5,w5=(w4.setCell ⟨vb,7,none⟩ (.int .i64 ((max v.rd s.2:Nat):Nat))).drew:=⟨_,rfl⟩
    have lgs:o1 z.gs=2:=M1.rs.2 _ rfl;have lgw:o1 z.gw=3:=M1.rw.2 _ rfl;have lvb:o1 vb=1:=M1.blk.2;have T12:Step (fun k=>k=2) w1 o1 w2 o1:=by rw[hw2];exact(Step.refl _ _ _).setCell _ _ lgs
    have T23:Step (fun k=>k=3) w2 o1 w3 o1:=by rw[hw3];exact((Step.refl _ _ _).setCell _ _ lgw).drew
    have T34:Step (fun k=>k=1) w3 o1 w4 o1:=by rw[hw4];exact((Step.refl _ _ _).setCell _ _ lvb).drew
    have T45:Step (fun k=>k=1) w4 o1 w5 o1:=by rw[hw5];exact((Step.refl _ _ _).setCell _ _ lvb).drew
    have K2:=M1.blk.step T12 (by decide);have K3:=K2.step T23 (by decide);have K4:Blk w4 o1 1 vb (.cells (vwA p c z v.tb.length (mG v.tb.length) (max v.st s.1.length) v.rd v.kd) 66):=⟨by rw[hw4];exact heap_setCell_same _ _ 6 _ _ _ K3.1,lvb⟩
    have K5:Blk w5 o1 1 vb (.cells (vwA p c z v.tb.length (mG v.tb.length) (max v.st s.1.length) (max v.rd s.2) v.kd) 66):=⟨by rw[hw5];exact heap_setCell_same _ _ 7 _ _ _ K4.1,lvb⟩
    have nb1:Blk w1 o1 4 nb (.cells cs 81):=⟨by rw[<-hcs];exact hS1,hol⟩
    have nb2:=nb1.step T12 (by decide);have nb3:=nb2.step T23 (by decide);have nb4:=nb3.step T34 (by decide);have nb5:=nb4.step T45 (by decide);obtain⟨⟨-,-,-,-,b4,b5,b6,b7,-⟩,bf⟩:=cells9 K2.1;obtain⟨⟨-,-,-,-,d4,d5,d6,d7,-⟩,df⟩:=cells9 K3.1;obtain⟨⟨-,-,-,-,g4,g5,g6,g7,-⟩,gf⟩:=cells9 K4.1;have df6:=df 6;have gf7:=gf 7;have cw2:w2.cell? ⟨z.gw,q / 64,none⟩=some (.int .u64 (wtN v (q / 64):Nat)):=(World.cell?_of_block (a:=⟨z.gw,q / 64,none⟩) (T12.block z.gw hgw1 (by rw[lgw];decide))).trans cw;have fw2:w2.frozen? ⟨z.gw,q / 64,none⟩=false:=(World.frozen?_of_block (a:=⟨z.gw,q / 64,none⟩) (T12.block z.gw hgw1 (by rw[lgw];decide))).trans fw;have n32:w3.cell? ⟨nb,32,none⟩=some (.int .i64 (s.1.length:Nat)):=(World.cell?_of_block (a:=⟨nb,32,none⟩) (nb3.1.trans nb1.1.symm)).trans c32;have n33:w4.cell? ⟨nb,33,none⟩=some (.int .i64 (s.2:Nat)):=(World.cell?_of_block (a:=⟨nb,33,none⟩) (nb4.1.trans nb1.1.symm)).trans c33;have HZ:Hid (PostV w o vb z p c (come q s v) (.returned (.int .i64 0)) w5):=by
     rw[hcm];have hp:(ptV pb v).set q (.pointer (some ⟨nb,0,none⟩))=ptV (fun i=>if i=q then nb else pb i) nv:=by
      apply List.ext_getElem?;intro i;rw[List.getElem?_set];by_cases hi:i<v.tb.length
      ·rw[ptV_at (v:=nv) (i:=i) (by rw[nl];exact hi),ptV_at (v:=v) hi];by_cases e:q=i
       ·subst e;rw[if_pos rfl,if_pos (by rw[ptV_len];exact hi),hnv];simp[List.getD_eq_getElem?_getD,hi]
       ·rw[if_neg e,hnv];have e':¬i=q:=fun x=>e x.symm;simp[List.getD_eq_getElem?_getD,List.getElem?_set,e,e']
      ·rw[List.getElem?_eq_none (l:=ptV _ nv) (by rw[ptV_len,nl];omega),List.getElem?_eq_none (l:=ptV _ v) (by rw[ptV_len];omega)];split
       ·split
        ·rename_i h1 h2;rw[ptV_len] at h2;omega
        ·rfl
       ·rfl
     have hwv:(wtV v (mG v.tb.length)).set (q / 64) (.int .u64 (nw:Nat))=wtV nv (mG v.tb.length):=by
      apply List.ext_getElem?;intro i;rw[List.getElem?_set];by_cases hi:i<mG v.tb.length
      ·rw[wtV_at hi,wtV_at hi,hwc];by_cases e:q / 64=i
       ·rw[if_pos e,if_pos (by simp[wtV];omega),if_pos e.symm,hnw,<-e]
       ·rw[if_neg e,if_neg (fun x=>e x.symm)]
      ·rw[List.getElem?_eq_none (l:=wtV nv _) (by simp[wtV];omega),List.getElem?_eq_none (l:=wtV v _) (by simp[wtV];omega)];split
       ·split
        ·rename_i h1 h2;simp[wtV] at h2;omega
        ·rfl
       ·rfl
     have r1:=M1.rs.store q (.pointer (some ⟨nb,0,none⟩));rw[<-hw2,hp,<-nl] at r1;have r2:=((r1.step T23 (by decide)).step T34 (by decide)).step T45 (by decide);have x1:=((M1.rw.step T12 (by decide)).store (q / 64) (.int .u64 (nw:Nat))).step ((Step.refl (fun _=>False) _ o1).drew) (fun h=>h);rw[<-hw3,hwv,<-nl] at x1;have x2:=(x1.step T34 (by decide)).step T45 (by decide);have b5':=K5;rw[<-nl] at b5';have Sall:Step I13 w o w5 o1:=(((S1.trans (T12.mono (fun k h=>Or.inr (Or.inl h)))).trans (T23.mono (fun k h=>Or.inr (Or.inr h)))).trans (T34.mono (fun k h=>Or.inl h))).trans (T45.mono (fun k h=>Or.inl h));refine⟨rfl,o1,(fun i=>if i=q then nb else pb i),⟨?_,r2,x2,fun i t ht=>?_⟩,Sall⟩
     ·have e1:nv.st=max v.st s.1.length:=by rw[hnv]
      have e2:nv.rd=max v.rd s.2:=by rw[hnv]
      have e3:nv.kd=v.kd:=by rw[hnv]
      rw[e1,e2,e3];exact b5'
     ·have hnt:nv.tb=v.tb.set q (some s):=by rw[hnv]
      rw[hnt,List.getElem?_set] at ht;by_cases e:q=i
      ·subst e;rw[if_pos rfl,if_pos hlt] at ht;simp only[Option.some.injEq] at ht;subst ht;simp only[if_true];exact⟨by show _=_;rw[hcs];exact nb5.1,hol⟩
      ·rw[if_neg e] at ht;have e':¬i=q:=fun x=>e x.symm;simp only[e',if_false];obtain⟨y1,y2⟩:=M1.sb i t ht;have y0:Blk w1 o1 4 (pb i) (.cells (stC t).toArray 81 (0,0)):=⟨y1,y2⟩
       exact(((y0.step T12 (by decide)).step T23 (by decide)).step T34 (by decide)).step T45 (by decide)
    have hst:=V.st;have hrd:=V.rd;have hsl:=S.len;have hsr:=S.rd;simp only[Option.isSome_none,Bool.false_eq_true,if_false] at cq;obtain⟨qd,hqd⟩:∃qd,qd=q / 64:=⟨_,rfl⟩
    obtain⟨qm,hqm⟩:∃qm,qm=q % 64:=⟨_,rfl⟩
    have hqdI:(q:Int) / 64=(qd:Int):=by omega
    have hqmI:(q:Int) % 64=(qm:Int):=by omega
    have hqdl:(qd:Int)<((mG v.tb.length:Nat):Int):=by unfold mG;omega
    have hqm64:qm<64:=by omega
    rw[<-hqd] at cw2 fw2 hw3;rw[<-hqm] at e1 e2;rw[<-hqd] at e1;have E1:=Lib.hid e1;have E2:=Lib.hid e2;have W2:=Lib.hid hw2;have W3:=Lib.hid hw3;have W4:=Lib.hid hw4;have W5:=Lib.hid hw5;rw[<-hqd] at hwn;generalize wtN v qd=wn at *;generalize s.1.length=hl at *;generalize s.2=sr at *;generalize mG v.tb.length=mm at *;generalize v.tb.length=vl at *;have M6:Hid ((if v.st<hl then (hl:Int) else (v.st:Int))=((max v.st hl:Nat):Int)):=by
     show _=_;by_cases h:v.st<hl
     ·rw[if_pos h];omega
     ·rw[if_neg h];omega
    have M7:Hid ((if v.rd<sr then (sr:Int) else (v.rd:Int))=((max v.rd sr:Nat):Int)):=by
     show _=_;by_cases h:v.rd<sr
     ·rw[if_pos h];omega
     ·rw[if_neg h];omega
    generalize come q s v=R at *;clear e1 e2 hw2 hw3 hw4 hw5 hqd hqm hwc hnv hcm nl hwl hgw1 hwcl hwf cw fw hnw hpw T12 T23 T34 T45 K2 K3 K4 K5 nb1 nb2 nb3 nb4 nb5 bf df gf b6 b7 d5 d4 g4 g5 g6 d7 lgs lgw lvb hgl hgs1 hgc hgf hptq hS1 M1 S1 hM B1 htb hgd a0 a1 a2 a3 a6 a7 a8 V D S hN hol ho1 c32 c33 b4;go_enter Tryd.func35,Tryd.ntmps35;go_upto_region 1 with fail;rw[<-hw1,<-HNB.out];clear hw1;go_upto_region 9 with fail;rw[<-W2.out];clear W2;go_region;rw[E2.out,E1.out,<-W3.out];clear W3 E2 E1 cw2 fw2 a4 a5 b5;go_upto_region 10 with fail;go_region
    first|rw[M6.out,<-W4.out]|rw[show max (v.st:Int) (hl:Int)=((max v.st hl:Nat):Int) from by omega,<-W4.out]
    clear W4 M6 d6 df6 n32;go_upto_region 11 with fail;go_region
    first|rw[M7.out,<-W5.out]|rw[show max (v.rd:Int) (sr:Int)=((max v.rd sr:Nat):Int) from by omega,<-W5.out]
    have HY:=HZ.out;clear W5 M7 g7 gf7 n33 HZ;go_wp2;go_ret;exact HY
 ·have hltI:¬(q:Int)<(v.tb.length:Int):=by omega
  have hcm:come q s v=(200,v):=by unfold come;rw[List.getElem?_eq_none (by omega)]
  have HZ:Hid (PostV w o vb z p c (come q s v) (.returned (.int .i64 200)) w1):=by
   rw[hcm];exact⟨rfl,o1,pb,M1,S1⟩
  clear hcm hS1 M1 S1 hM B1 c32 c33;generalize come q s v=R at *;go_enter Tryd.func35,Tryd.ntmps35;go_upto_region 1 with fail;rw[<-hw1,<-HNB.out];clear hw1;go_wp2;go_ret;exact HZ.out
theorem halt_c (w:World)(o:Nat->Nat)(vb:Nat)(z:Vp)(p:Pl)(c:Cd)(v:Vw)(pb:Nat->Nat)(n:Nat)(s:StG)(V:VwOk n v)(S:StOkG s)(hM:VwM w o vb z p c v pb) :
  Calls Tryd.prog 38 #[.pointer (some ⟨vb,0,none⟩),.agg (stC s).toArray] w (PostV w o vb z p c (haltF s v)):=by
 obtain⟨nb,hnb⟩:∃nb,nb=w.heap.size:=⟨_,rfl⟩
 obtain⟨w1,hw1⟩:∃w1,w1=w.alloc (.cells (stC s).toArray 81):=⟨_,rfl⟩
 have B1:Below w.heap.size w w1:=by rw[hw1];exact bG _ _
 have hS1:StB w1 nb s:=by rw[hw1,hnb];exact h1G _ _
 obtain⟨o1,ho1⟩:∃o1,o1=newLab w o 9:=⟨_,rfl⟩
 have hol:o1 nb=9:=by rw[ho1,hnb];exact newLab_new (Nat.le_refl _)
 have S1:∀ {I:Nat->Prop},Step I w o w1 o1:=fun {I}=>by rw[ho1];exact stepNg B1
 have M1:=hM.step (S1 (I:=fun _=>False)) (fun h=>h) (fun h=>h) (fun h=>h) (fun h=>h);have c32:=(blk_cell hS1 32).trans (stC_ht s);have c33:=(blk_cell hS1 33).trans (stC_rd s);have HP:=pop_c nb s w1 S hS1;have HNB:=Lib.hid hnb;clear hnb;generalize hcs:(stC s).toArray=cs at *;have hsl:=S.len;have hsr:=S.rd;by_cases h1:s.1.length=1/\s.2=0
 ·obtain⟨h1,h2⟩:=h1;obtain⟨l,r⟩:=s;simp only at h1 h2;subst h2
  match l,h1 with
  | [k],_ =>
   have hk:=S.kd k (by simp);have hh:haltF ([k],0) v=if v.kd≠0/\v.kd≠k then (202,v) else (0,⟨v.tb,v.dn,v.st,v.rd,k⟩):=by
    unfold haltF;rw[if_pos ⟨rfl,rfl⟩];rfl
   have HQ:Hid (∀ e w2,PostPo nb ([k],0) w1 e w2->e=.returned (.int .i64 (k:Nat))/\Kb nb w1 w2):=fun e w2 h=>by
    obtain⟨K,⟨h,-⟩|⟨l',k',h,h3,-⟩⟩:=h
    ·simp at h
    ·have:l'=[]/\k'=k:=by
      cases l' with
      | nil=>simp at h;exact⟨rfl,h.symm⟩
      | cons a t=>simp at h
     obtain⟨rfl,rfl⟩:=this;exact⟨h3,K⟩
   have hkd:=V.kd;have HZ:Hid (∀ w2,Kb nb w1 w2->w2.cell? ⟨vb,8,none⟩=some (.int .i64 (v.kd:Nat))/\w2.frozen? ⟨vb,8,none⟩=false/\(v.kd≠0/\v.kd≠k->PostV w o vb z p c (haltF ([k],0) v) (.returned (.int .i64 202)) w2) /\
     (¬(v.kd≠0/\v.kd≠k)->PostV w o vb z p c (haltF ([k],0) v) (.returned (.int .i64 0)) (w2.setCell ⟨vb,8,none⟩ (.int .i64 (k:Nat))))):=fun w2 K=>by
    have S2:=K.step o1 (I:=fun k=>k=9) hol;have SW:∀ {I:Nat->Prop},Step I w o w2 o1:=fun {I}=>by rw[ho1];exact stepNg (B1.trans (K.below (by rw[HNB.out];exact Nat.le_refl _) B1.size))
    have M2:=M1.step S2 (by decide) (by decide) (by decide) (by decide);obtain⟨⟨-,-,-,-,-,-,-,-,b8⟩,bf⟩:=cells9 M2.blk.1;refine⟨b8,bf 8,fun h=>?_,fun h=>?_⟩
    ·rw[hh,if_pos h];exact⟨rfl,o1,pb,M2,SW⟩
    ·rw[hh,if_neg h];have T:Step (fun k=>k=1) w2 o1 (w2.setCell ⟨vb,8,none⟩ (.int .i64 (k:Nat))) o1:=(Step.refl _ _ _).setCell _ _ M2.blk.2;exact⟨rfl,o1,pb,⟨⟨heap_setCell_same _ _ 8 _ _ _ M2.blk.1,M2.blk.2⟩,M2.rs.step T (by decide),M2.rw.step T (by decide),fun i t ht=>by
      obtain⟨a,b⟩:=M2.sb i t ht;exact⟨(T.block _ a.lt (by rw[b];decide)).trans a,b⟩⟩,SW.trans (T.mono (fun k h=>Or.inl h))⟩
   have hkI:(k:Int)<=3:=by omega
   clear S M1 S1 hM B1 hS1 hol ho1 hh V;have c32:w1.cell? ⟨nb,32,none⟩=some (.int .i64 1):=c32;have c33:w1.cell? ⟨nb,33,none⟩=some (.int .i64 0):=c33;generalize haltF ([k],0) v=R at *;have HX:=HZ;clear HZ;generalize hkd0:v.kd=kd at *;by_cases hc:kd≠0/\kd≠k
   ·have HX:Hid (∀ w2,Kb nb w1 w2->w2.cell? ⟨vb,8,none⟩=some (.int .i64 (kd:Nat))/\w2.frozen? ⟨vb,8,none⟩=false/\PostV w o vb z p c R (.returned (.int .i64 202)) w2):=fun w2 K=>⟨(HX.out w2 K).1,(HX.out w2 K).2.1,(HX.out w2 K).2.2.1 hc⟩;have t1:¬(kd:Int)=0:=by omega
    have t2:¬(kd:Int)=(k:Int):=by omega
    have t3:(((kd:Int) != 0)&&((kd:Int) != (k:Int)))=true:=by simp[t1];omega
    clear hc;go_enter Tryd.func38,Tryd.ntmps38;go_upto_region 1 with fail;rw[<-hw1,<-HNB.out];clear hw1;go_wp2_with (first|(go_at_call 58;refine HP.mono ?_;intro e w2 h;obtain⟨rfl,K⟩:=HQ.out e w2 h;obtain⟨b8,f8,HY⟩:=HX.out w2 K;have HYY:=Lib.hid HY;clear HP HQ HX h c32 HY K));go_ret;exact HYY.out
   ·have HX:Hid (∀ w2,Kb nb w1 w2->w2.cell? ⟨vb,8,none⟩=some (.int .i64 (kd:Nat))/\w2.frozen? ⟨vb,8,none⟩=false/\PostV w o vb z p c R (.returned (.int .i64 0)) (w2.setCell ⟨vb,8,none⟩ (.int .i64 (k:Nat)))):=fun w2 K=>⟨(HX.out w2 K).1,(HX.out w2 K).2.1,(HX.out w2 K).2.2.2 hc⟩;by_cases e0:kd=0
    ·subst e0;go_enter Tryd.func38,Tryd.ntmps38;go_upto_region 1 with fail;rw[<-hw1,<-HNB.out];clear hw1;go_wp2_with (first|(go_at_call 58;refine HP.mono ?_;intro e w2 h;obtain⟨rfl,K⟩:=HQ.out e w2 h;obtain⟨b8,f8,HY⟩:=HX.out w2 K;have HYY:=Lib.hid HY;clear HP HQ HX h c32 HY K));go_ret;exact HYY.out
    ·have t1:¬(kd:Int)=0:=by omega
     obtain rfl:kd=k:=by omega
     go_enter Tryd.func38,Tryd.ntmps38;go_upto_region 1 with fail;rw[<-hw1,<-HNB.out];clear hw1;go_wp2_with (first|(go_at_call 58;refine HP.mono ?_;intro e w2 h;obtain⟨rfl,K⟩:=HQ.out e w2 h;obtain⟨b8,f8,HY⟩:=HX.out w2 K;have HYY:=Lib.hid HY;clear HP HQ HX h c32 HY K));go_ret;exact HYY.out
 ·have hh:haltF s v=(201,v):=by unfold haltF;rw[if_neg h1]
  have HY:Hid (PostV w o vb z p c (haltF s v) (.returned (.int .i64 201)) w1):=by rw[hh];exact⟨rfl,o1,pb,M1,S1⟩
  clear HP S M1 S1 hM B1 hS1 hol ho1 hh V;generalize haltF s v=R at *;generalize s.1.length=hl at *;generalize s.2=sr at *;by_cases e1:hl=1
  ·have e1I:(hl:Int)=1:=by omega
   have e2I:((sr:Int) != 0)=true:=by simp;omega
   subst e1;go_enter Tryd.func38,Tryd.ntmps38;go_upto_region 1 with fail;rw[<-hw1,<-HNB.out];clear hw1;go_wp2;go_ret;exact HY.out
  ·have e1I:((hl:Int) != 1)=true:=by simp;omega
   go_enter Tryd.func38,Tryd.ntmps38;go_upto_region 1 with fail;rw[<-hw1,<-HNB.out];clear hw1;go_wp2;go_ret;exact HY.out
def PostNG (w:World)(o:Nat->Nat)(vb:Nat)(z:Vp)(p:Pl)(c:Cd)(v:Vw)(pb:Nat->Nat)(e:Ending)(w':World):Prop :=
 ∃o',Step I13 w o w' o'/\match nxtF v with
 | none=>e=.returned (.tuple #[.int .i64 0,.bool false])/\VwM w' o' vb z p c v pb
 | some k=>e=.returned (.tuple #[.int .i64 (k:Nat),.bool true])/\VwM w' o' vb z p c (markF k v) pb
theorem waits_lt {v:Vw}{i:Nat}(h:waits v i=true):i<v.tb.length:=by
 unfold waits at h;by_cases hi:i<v.tb.length
 ·exact hi
 ·rw[List.getD_eq_getElem?_getD,List.getElem?_eq_none (by omega)] at h;simp at h
theorem next_cG (w:World)(o:Nat->Nat)(vb:Nat)(z:Vp)(p:Pl)(c:Cd)(v:Vw)(pb:Nat->Nat)(n:Nat)(V:VwOk n v)(D:VwD v)(hn:n<=32768)(hn0:0<n)(hT:Tzg w)(hTo:o 0=0)(hM:VwM w o vb z p c v pb) :
  Calls Tryd.prog 19 #[.pointer (some ⟨vb,0,none⟩)] w (PostNG w o vb z p c v pb):=by
 obtain⟨⟨-,-,-,-,-,a5,-,-,-⟩,-⟩:=cells9 hM.blk.1;have hN:=V.tl;obtain⟨gw',cw',hgw,hwl,-,-,hgw1,hwcl,hwf⟩:=hM.rw.pos (by unfold mG;omega);simp only[Value.slice.injEq,Option.some.injEq,Addr.mk.injEq,and_true,true_and] at hgw;obtain⟨rfl,rfl⟩:=hgw;have hmm:mG v.tb.length<=512:=by unfold mG;omega
 have hml:v.tb.length<=64*mG v.tb.length:=by unfold mG;omega
 have hcell:∀ j,j<mG v.tb.length->w.cell? ⟨z.gw,j,none⟩=some (.int .u64 (wtN v j:Nat)):=fun j hj=>(hwcl j (by omega)).trans (wtV_at hj);have lgw:o z.gw=3:=hM.rw.2 _ rfl
 -- what a found word gives
 have HF:Hid (∀ j,j<mG v.tb.length->wtN v j≠0->(∀ i,i<j->wtN v i=0)->PostNG w o vb z p c v pb (.returned (.tuple #[.int .i64 ((64*j+Lib.ctz 64 (wtN v j):Nat):Nat),.bool true])) (w.setCell ⟨z.gw,j,none⟩ (.int .u64 ((wtN v j &&& (wtN v j-1):Nat):Nat)))):=fun j hj h0 hlow=>by
  obtain⟨b1G,b2,b3⟩:=ctz_bitg _ h0 (wtN_lt v j);obtain⟨t,ht⟩:∃t,t=Lib.ctz 64 (wtN v j):=⟨_,rfl⟩
  rw[<-ht] at b1G b2 b3 ⊢;rw[wtN_bit,decide_eq_true b3,Bool.true_and] at b1G;have hkl:=waits_lt b1G;have hnx:nxtF v=some (64*j+t):=nxt_at hkl b1G fun i hi=>by
   by_cases h:i / 64=j
   ·have:=b2 (i % 64) (by omega)
    rw[wtN_bit,decide_eq_true (by omega),Bool.true_and,show 64*j+i % 64=i by omega] at this;exact this
   ·have:=wtN_none (hlow (i / 64) (by omega)) (i % 64) (by omega)
    rw[show 64*(i / 64)+i % 64=i by omega] at this;exact this
  have hmk:=wtN_mark h0 ht (by rw[V.dl,<-hN];exact hkl);have T:Step (fun k=>k=3) w o (w.setCell ⟨z.gw,j,none⟩ (.int .u64 ((wtN v j &&& (wtN v j-1):Nat):Nat))) o:=(Step.refl _ _ _).setCell _ _ lgw;have hwv:(wtV v (mG v.tb.length)).set j (.int .u64 ((wtN v j &&& (wtN v j-1):Nat):Nat))=wtV (markF (64*j+t) v) (mG v.tb.length):=by
   apply List.ext_getElem?;intro i;rw[List.getElem?_set];by_cases hi:i<mG v.tb.length
   ·rw[wtV_at hi,wtV_at hi,hmk];by_cases e:j=i
    ·subst e;rw[if_pos rfl,if_pos (by simp[wtV];exact hi),if_pos rfl]
    ·rw[if_neg e,if_neg (fun x=>e x.symm)]
   ·rw[List.getElem?_eq_none (l:=wtV (markF _ v) _) (by simp[wtV];omega),List.getElem?_eq_none (l:=wtV v _) (by simp[wtV];omega)];split
    ·split
     ·rename_i h1 h2;simp[wtV] at h2;omega
     ·rfl
    ·rfl
  have r1:=hM.rw.store j (.int .u64 ((wtN v j &&& (wtN v j-1):Nat):Nat));rw[hwv] at r1;refine⟨o,T.mono (fun k h=>Or.inr (Or.inr h)),?_⟩;rw[hnx];exact⟨rfl,hM.blk.step T (by decide),hM.rs.step T (by decide),r1,fun i s hs=>by
   obtain⟨x,y⟩:=hM.sb i s hs;exact⟨(T.block _ x.lt (by rw[y];decide)).trans x,y⟩⟩
 have HG0:Hid ((∀ i,i<mG v.tb.length->wtN v i=0)->PostNG w o vb z p c v pb (.returned (.tuple #[.int .i64 0,.bool false])) w):=fun h=>by
  have hnx:nxtF v=none:=nxt_no fun i hi=>by
   have:=wtN_none (h (i / 64) (by omega)) (i % 64) (by omega)
   rw[show 64*(i / 64)+i % 64=i by omega] at this;exact this
  refine⟨o,Step.refl _ _ _,?_⟩;rw[hnx];exact⟨rfl,hM⟩
 have hwlt:=fun j=>wtN_lt v j;have hgz:z.gw≠0:=fun e=>by rw[e] at lgw;omega
 generalize mG v.tb.length=mm at *;clear hM V D hwl hwcl lgw hN hml hgw1;go_enter Tryd.func19,Tryd.ntmps19;go_wp2_with fail;go_loopw [11] (fun x wr=>∃j:Nat,x=.int .i64 (j:Nat)/\j<=mm/\Hid (∀ i,i<j->wtN v i=0)/\wr=w) (fun x _=>mm-(intOf x).toNat)
 case atStart=>exact⟨0,by go_num,by omega,fun i hi=>by omega,rfl⟩
 case round =>
  obtain⟨j,rfl,hj,HL,rfl⟩:=hrel;by_cases hlt:j<mm
  ·have hjI:(j:Int)<(mm:Int):=by omega
   have cj:=hcell j hlt;have fj:=hwf j;have hwj:=hwlt j;by_cases h0:wtN v j=0
   ·have hst:Hid (∀ i,i<j+1->wtN v i=0):=fun i hi=>by
     by_cases e:i=j
     ·subst e;exact h0
     ·exact HL.out i (by omega)
    rw[h0] at cj;clear h0 hwj hcell HF HG0 HL hwf hwlt;go_wp2;go_roundw
    case rel=>(try ((repeat apply Exists.intro);refine⟨?_,rfl⟩));exact⟨j+1,by go_num,by omega,hst,by trivial⟩
    case measure=>simp[intOf];omega
   ·have HY:=Lib.hid (HF.out j hlt h0 HL.out);have htz:=fun wx h=>tz_cg (wtN v j) wx hwj h0 h;have hb3:=(ctz_bitg _ h0 hwj).2.2;generalize Lib.ctz 64 (wtN v j)=t at *;generalize wtN v j=wn at *;obtain⟨nw,hnw⟩:∃nw,nw=wn &&& (wn-1):=⟨_,rfl⟩
    rw[<-hnw] at HY;have e1:bits .and .u64 ((wn:Nat):Int) (IntKind.u64.wrap ((wn:Nat)-1:Int))=(nw:Int):=by
     have h:=bits_and_u64_nat wn (wn-1) hwj (by unfold topG at hwj;omega);have h2:IntKind.u64.wrap ((wn:Nat)-1:Int)=((wn-1:Nat):Int):=by rw[IntKind.wrap_u64];unfold topG at hwj;omega
     rw[hnw,h2,<-h]
    have E1:=Lib.hid e1;have hne:¬(wn:Int)=0:=by omega
    have T2:Hid (Tzg (wr.setCell ⟨z.gw,j,none⟩ (.int .u64 (nw:Nat)))):=⟨fun i hi=>(World.cell?_of_block (a:=⟨0,i,none⟩) (heap_setCell_other _ _ _ _ (fun e=>hgz e.symm))).trans (hT.1 i hi),by simpa using hT.2⟩
    clear hcell HF HG0 HL hwf hwlt e1 hnw h0;have hsum:Hid ((64:Int)*(j:Int)+(t:Int)=((64*j+t:Nat):Int)):=by show _=_;omega
    go_upto_region 6 with fail;rw[E1.out];clear E1 cj fj a5 hT hgz;have T3:=T2.out;clear T2;generalize wr.setCell ⟨z.gw,j,none⟩ (.int .u64 (nw:Nat))=w2 at *;go_wp2_with (first|(go_at_call 36;refine(htz _ T3).mono ?_;rintro e w5 ⟨rfl,rfl⟩));go_ret2;have HX:=HY.out;rw[<-hsum.out] at HX;exact HX
  ·have hjI:¬(j:Int)<(mm:Int):=by omega
   obtain rfl:j=mm:=by omega
   have HY:=Lib.hid (HG0.out HL.out);clear HF HG0 HL hcell hwf hwlt;go_wp2;go_ret2;exact HY.out
end Go.Proofs.YtejnhibajmncaaaDoor
