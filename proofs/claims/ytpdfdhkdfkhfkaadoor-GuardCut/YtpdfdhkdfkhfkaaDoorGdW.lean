import Derived.Test.YtpdfdhkdfkhfkaaDoorGdL
import Derived.Lib.TrailingZeros
import Derived.Shelf.Spec.TrailingZeros
set_option maxRecDepth 100000
set_option maxHeartbeats 8000000
namespace Go.Proofs.YtpdfdhkdfkhfkaaDoor
open Go.ChangeShapes Go.WideShapes Go.ChangeAt Go.RowKit
set_option linter.unusedVariables false
set_option linter.unusedSimpArgs false
def VwD (v:Vw):Prop:=∀ i,v.tb.getD i none=none->v.dn.getD i false=false
theorem come_d {q:Nat}{s:St}{v:Vw}(D:VwD v):VwD (come q s v).2:=by
 unfold come;split
 ·exact D
 ·exact D
 ·intro i hi
  dsimp only at hi ⊢
  apply D i;rw[List.getD_eq_getElem?_getD,List.getElem?_set] at hi;rw[List.getD_eq_getElem?_getD];split at hi
  ·split at hi
   ·simp at hi
   ·rw[List.getElem?_eq_none (by omega)];rfl
  ·exact hi
theorem halt_d {s:St}{v:Vw}(D:VwD v):VwD (haltF s v).2:=by
 unfold haltF;split
 ·split
  ·exact D
  ·exact D
 ·exact D
theorem go_d {o a b k:Nat}{s d:St}{v:Vw}(D:VwD v):VwD (goF o a b k s d v).2:=by
 have H:VwD (if o=13 then (0,v) else come (k+1) s v).2:=by
  split
  ·exact D
  ·exact come_d D
 unfold goF;generalize (if o=13 then (0,v) else come (k+1) s v)=r at *;split
 ·cases ledTo o a b with
  | none=>exact H
  | some q=>exact come_d H
 ·exact H
theorem lookW_d {c:Cd}{o a b k:Nat}{s:St}{v:Vw}(D:VwD v):VwD (lookW c o a b k s v).2:=by
 unfold lookW;split
 ·exact halt_d D
 ·split
  ·exact D
  ·split
   ·exact D
   ·exact go_d D
theorem mark_d {k:Nat}{v:Vw}(D:VwD v)(hw:waits v k=true):VwD (markF k v):=by
 intro i hi;have h:=D i hi;show (v.dn.set k true).getD i false=false;rw[List.getD_eq_getElem?_getD,List.getElem?_set];split
 ·rename_i e
  subst e;exfalso;unfold waits at hw;have hi':v.tb.getD k none=none:=hi;rw[hi'] at hw;simp at hw
 ·rw[List.getD_eq_getElem?_getD] at h;exact h
theorem new_d {n:Nat}:VwD (newF n):=by
 intro i _;show (List.replicate n false).getD i false=false;rw[List.getD_eq_getElem?_getD,List.getElem?_replicate];split<;>rfl
theorem waits_mark {k i:Nat}{v:Vw}(hk:k<v.dn.length):waits (markF k v) i=(waits v i&&!decide (i=k)):=by
 show ((v.tb.getD i none).isSome&&!((v.dn.set k true).getD i false))=_;unfold waits;by_cases e:i=k
 ·subst e;rw[List.getD_eq_getElem?_getD (l:=v.dn.set i true),List.getElem?_set,if_pos rfl,if_pos hk];simp
 ·rw[List.getD_eq_getElem?_getD (l:=v.dn.set k true),List.getElem?_set,if_neg (fun x=>e x.symm),<-List.getD_eq_getElem?_getD];simp[e]
theorem waits_come {q i:Nat}{s:St}{v:Vw}{x y z:Nat}(D:VwD v)(hq:v.tb[q]?=some none):waits ⟨v.tb.set q (some s),v.dn,x,y,z⟩ i=(waits v i||decide (i=q)):=by
 have hql:q<v.tb.length:=(List.getElem?_eq_some_iff.1 hq).1;show (((v.tb.set q (some s)).getD i none).isSome&&!(v.dn.getD i false))=_;unfold waits;by_cases e:i=q
 ·subst e;rw[List.getD_eq_getElem?_getD (l:=v.tb.set i (some s)),List.getElem?_set,if_pos rfl,if_pos hql,D i (by rw[List.getD_eq_getElem?_getD,hq];rfl)];simp
 ·rw[List.getD_eq_getElem?_getD (l:=v.tb.set q (some s)),List.getElem?_set,if_neg (fun x=>e x.symm),<-List.getD_eq_getElem?_getD];simp[e]
def bitsN (f:Nat->Bool):Nat->Nat
 | 0=>0
 | n+1=>bitsN f n+if f n=true then 2 ^ n else 0
theorem bitsN_lt (f:Nat->Bool):∀ n,bitsN f n<2 ^ n
 | 0=>by simp[bitsN]
 | n+1=>by
  have:=bitsN_lt f n
  rw[bitsN,Nat.pow_succ];split<;>omega
theorem bitsN_bit (f:Nat->Bool):∀ n i,(bitsN f n).testBit i=(decide (i<n)&&f i)
 | 0,i=>by simp[bitsN]
 | n+1,i=>by
  have hl:=bitsN_lt f n;rw[bitsN];by_cases hf:f n=true
  ·rw[if_pos hf];by_cases e:i=n
   ·subst e;rw[Nat.add_comm,Nat.testBit_two_pow_add_eq,bitsN_bit f i i,hf];simp
   ·rcases Nat.lt_or_gt_of_ne e with h|h
    ·rw[Nat.add_comm,Nat.testBit_two_pow_add_gt h,bitsN_bit f n i];simp[h,Nat.lt_succ_of_lt h]
    ·rw[Nat.testBit_lt_two_pow (Nat.lt_of_lt_of_le (show bitsN f n+2 ^ n<2 ^ (n+1) by rw[Nat.pow_succ];omega) (Nat.pow_le_pow_right (by decide) (by omega)))];simp;omega
  ·rw[if_neg hf,Nat.add_zero,bitsN_bit f n i];by_cases e:i=n
   ·subst e;simp[hf]
   ·have:(i<n ↔ i<n+1):=by omega
    simp[this]
abbrev topG:Nat:=18446744073709551616
def wtN (v:Vw)(j:Nat):Nat:=bitsN (fun i=>waits v (64*j+i)) 64
theorem wtN_lt (v:Vw)(j:Nat):wtN v j<topG:=bitsN_lt _ 64
theorem wtN_bit (v:Vw)(j i:Nat):(wtN v j).testBit i=(decide (i<64)&&waits v (64*j+i)):=bitsN_bit _ 64 i
theorem wtN_none {v:Vw}{j:Nat}(h:wtN v j=0):∀ i,i<64->waits v (64*j+i)=false:=fun i hi=>by
 have:=wtN_bit v j i
 rw[h,Nat.zero_testBit,decide_eq_true hi,Bool.true_and] at this;exact this.symm
theorem wtN_come {q j:Nat}{s:St}{v:Vw}{x y z:Nat}(D:VwD v)(hq:v.tb[q]?=some none):wtN ⟨v.tb.set q (some s),v.dn,x,y,z⟩ j=if j=q / 64 then wtN v j ||| 2 ^ (q % 64) else wtN v j:=by
 apply Nat.eq_of_testBit_eq;intro i;rw[wtN_bit,waits_come D hq];by_cases e:j=q / 64
 ·rw[if_pos e,Nat.testBit_or,wtN_bit,Nat.testBit_two_pow];by_cases hi:i<64
  ·have h2:(64*j+i=q ↔ q % 64=i):=by omega
   simp[hi,h2]
  ·have h3:¬q % 64=i:=by omega
   simp[hi,h3]
 ·rw[if_neg e,wtN_bit];by_cases hi:i<64
  ·have h2:¬(64*j+i=q):=by omega
   simp[hi,h2]
  ·simp[hi]
theorem pow_mul_bitg (c m i:Nat):(2 ^ c*(2*m+1)).testBit i=(decide (c<=i)&&(2*m+1).testBit (i-c)):=by
 rw[Nat.testBit_two_pow_mul]
theorem ctz_bitg (z:Nat)(h0:z≠0)(hz:z<topG):z.testBit (Lib.ctz 64 z)=true/\(∀ i,i<Lib.ctz 64 z->z.testBit i=false)/\Lib.ctz 64 z<64:=by
 obtain⟨m,h1,h2⟩:=Lib.ctzFrom_spec 64 z (by omega) hz;have e:Lib.ctz 64 z=Lib.ctzFrom 64 z:=by unfold Lib.ctz;rw[if_neg h0]
 rw[e];generalize Lib.ctzFrom 64 z=c at *;subst h1;refine⟨?_,fun i hi=>?_,h2⟩
 ·rw[pow_mul_bitg];simp
 ·rw[pow_mul_bitg,decide_eq_false (by omega)];rfl
theorem and_pred (z:Nat)(h0:z≠0)(hz:z<topG)(i:Nat):(z &&& (z-1)).testBit i=(z.testBit i&&!decide (i=Lib.ctz 64 z)):=by
 obtain⟨m,h1,h2⟩:=Lib.ctzFrom_spec 64 z (by omega) hz;have e:Lib.ctz 64 z=Lib.ctzFrom 64 z:=by unfold Lib.ctz;rw[if_neg h0]
 rw[e];generalize Lib.ctzFrom 64 z=c at *;have hz2:z=2 ^ (c+1)*m+2 ^ c:=by rw[h1,Nat.mul_add,Nat.pow_succ,<-Nat.mul_assoc,Nat.mul_one]
 have hp:0<2 ^ c:=Nat.pow_pos (by decide);have hz3:z-1=2 ^ (c+1)*m+(2 ^ c-1):=by omega
 have hlt1:2 ^ c<2 ^ (c+1):=by rw[Nat.pow_succ];omega
 rw[Nat.testBit_and,hz3,hz2,Nat.testBit_two_pow_mul_add _ hlt1,Nat.testBit_two_pow_mul_add _ (by omega:2 ^ c-1<2 ^ (c+1))];by_cases hi:i<c+1
 ·rw[if_pos hi,if_pos hi,Nat.testBit_two_pow,Nat.testBit_two_pow_sub_one];by_cases hic:c=i
  ·subst hic;simp
  ·have:¬i=c:=fun x=>hic x.symm
   simp[hic]
 ·rw[if_neg hi,if_neg hi]
  have:¬i=c:=by omega
  simp[this]
theorem wtN_mark {j c:Nat}{v:Vw}(h0:wtN v j≠0)(hc:c=Lib.ctz 64 (wtN v j))(hk:64*j+c<v.dn.length)(i:Nat) :
  wtN (markF (64*j+c) v) i=if i=j then wtN v j &&& (wtN v j-1) else wtN v i:=by
 have hl:=(ctz_bitg _ h0 (wtN_lt v j)).2.2;rw[<-hc] at hl;apply Nat.eq_of_testBit_eq;intro t;rw[wtN_bit,waits_mark hk];by_cases e:i=j
 ·subst e;rw[if_pos rfl,and_pred _ h0 (wtN_lt v i),<-hc,wtN_bit];by_cases ht:t<64
  ·have h2:(64*i+t=64*i+c ↔ t=c):=by omega
   simp[ht,h2]
  ·simp[ht]
 ·rw[if_neg e,wtN_bit];by_cases ht:t<64
  ·have h2:¬64*i+t=64*j+c:=by omega
   simp[ht,h2]
  ·simp[ht]
def Tzg (w:World):Prop:=TabAt 0 Lib.deBruijn64tab w/\0<w.heap.size
theorem Tzg.below {w w':World}(h:Tzg w)(b:Below w.heap.size w w'):Tzg w' :=
 ⟨fun j hj=>(b.cell (p:=⟨0,j,none⟩) h.2).trans (h.1 j hj),Nat.lt_of_lt_of_le h.2 b.size⟩
theorem tz_coreg (x k idx:Nat)(w:World)(hx0:((x:Int)==0)=false)
  (key:IntKind.u64.wrap (bits BinOp.and IntKind.u64 (x:Int) (IntKind.u64.wrap (-(x:Int)))*285870213051353865) / 288230376151711744=(idx:Int))
  (hi:idx<64) (hk:k<64) (hcell:w.cell? ⟨0,idx,none⟩=some (.int .u8 k)) :
  Calls Tryd.prog 37 #[.int .u64 x] w fun e w'=>e=.returned (.int .i64 k)/\w'=w:=by
 go_enter Tryd.func37,Tryd.ntmps37;go_wp2_with (simp only[key]);go_ret;exact⟨rfl,rfl⟩
theorem tz_cg (x:Nat)(w:World)(hx:x<topG)(hx0:x≠0)(hT:Tzg w) :
  Calls Tryd.prog 37 #[.int .u64 x] w fun e w'=>e=.returned (.int .i64 (Lib.ctz 64 x))/\w'=w:=by
 obtain⟨hlow,hk⟩:=Lib.lowest_bit 64 x hx0 hx;obtain⟨hi,htab⟩:=Lib.deBruijn64_at _ hk;have hcell:=hT.1 _ hi;rw[htab] at hcell;exact tz_coreg x _ _ w (by simp;omega) (tz64_key x _ hx hx0 hlow) hi hk hcell
end Go.Proofs.YtpdfdhkdfkhfkaaDoor
