import Derived.Test.YtpdfdhkdfkhfkaaDoorGrdM
set_option maxRecDepth 100000
set_option maxHeartbeats 8000000
namespace Go.Proofs.YtpdfdhkdfkhfkaaDoor
open Go.RowKit
set_option linter.unusedVariables false
set_option linter.unusedSimpArgs false
def grp:List Nat->Nat
 | []=>0
 | k::t=>k+4*grp t
def gk (l:List Nat)(i:Nat):Nat:=grp ((l.drop (32*i)).take 32)
theorem grp_lt:∀ l:List Nat,(∀ k ∈ l,k<=3)->grp l<4 ^ l.length
 | [],_=>by simp[grp]
 | k::t,h=>by
  have h1:=grp_lt t (fun x hx=>h x (List.mem_cons_of_mem _ hx));have h2:=h k (List.mem_cons_self ..);simp only[grp,List.length_cons,Nat.pow_succ];omega
theorem grp_snoc (k:Nat):∀ l:List Nat,grp (l++[k])=grp l+k*4 ^ l.length
 | []=>by simp[grp]
 | x::t=>by
  simp only[List.cons_append,grp,grp_snoc k t,List.length_cons,Nat.pow_succ];rw[Nat.mul_add,show k*(4 ^ t.length*4)=4*(k*4 ^ t.length) by rw[<-Nat.mul_assoc,Nat.mul_comm]];omega
theorem grp_inj:∀ l m:List Nat,(∀ k ∈ l,1<=k/\k<=3)->(∀ k ∈ m,1<=k/\k<=3)->grp l=grp m->l=m
 | [],[],_,_,_=>rfl
 | [],k::t,_,h,e=>by
  have:=h k (List.mem_cons_self ..)
  simp only[grp] at e;omega
 | k::t,[],h,_,e=>by
  have:=h k (List.mem_cons_self ..)
  simp only[grp] at e;omega
 | k::t,k'::t',h,h',e=>by
  have h1:=h k (List.mem_cons_self ..);have h2:=h' k' (List.mem_cons_self ..);simp only[grp] at e;have e1:k=k':=by omega
  have e2:grp t=grp t':=by omega
  rw[e1,grp_inj t t' (fun x hx=>h x (List.mem_cons_of_mem _ hx)) (fun x hx=>h' x (List.mem_cons_of_mem _ hx)) e2]
theorem gk_top {l:List Nat}(h:∀ k ∈ l,1<=k/\k<=3){h0:Nat}(hl:l.length=h0):gk l (h0 / 32)=grp (l.drop (32*(h0 / 32)))/\gk l (h0 / 32)<4 ^ (h0 % 32):=by
 have h1:(l.drop (32*(h0 / 32))).length=h0 % 32:=by rw[List.length_drop];omega
 have e:gk l (h0 / 32)=grp (l.drop (32*(h0 / 32))):=by
  unfold gk;rw[List.take_of_length_le (by omega)]
 refine⟨e,?_⟩;rw[e,<-h1];exact grp_lt _ (fun k hk=>(h k (List.mem_of_mem_drop hk)).2)
theorem gk_snoc (l:List Nat)(k i:Nat):gk (l++[k]) i=if i=l.length / 32 then gk l i+k*4 ^ (l.length % 32) else gk l i:=by
 by_cases h:i=l.length / 32
 ·rw[if_pos h];subst h;have h1:(l.drop (32*(l.length / 32))).length=l.length % 32:=by rw[List.length_drop];omega
  unfold gk;rw[List.drop_append_of_le_length (by omega),List.take_of_length_le (by simp;omega),List.take_of_length_le (by omega),grp_snoc,h1]
 ·rw[if_neg h];unfold gk;by_cases hi:i<l.length / 32
  ·rw[List.drop_append_of_le_length (by omega),List.take_append_of_le_length (by rw[List.length_drop];omega)]
  ·have h2:l.length<32*i:=by omega
   rw[List.drop_of_length_le (by simp;omega),List.drop_of_length_le (by omega)]
theorem gk_inj {l m:List Nat}(hl:∀ k ∈ l,1<=k/\k<=3)(hm:∀ k ∈ m,1<=k/\k<=3)(ll:l.length<=1024)(lm:m.length<=1024)(h:∀ i,i<32->gk l i=gk m i):l=m:=by
 have hc:∀ i,i<32->(l.drop (32*i)).take 32=(m.drop (32*i)).take 32:=fun i hi =>
  grp_inj _ _ (fun k hk=>hl k (List.mem_of_mem_drop (List.mem_of_mem_take hk))) (fun k hk=>hm k (List.mem_of_mem_drop (List.mem_of_mem_take hk))) (h i hi)
 apply List.ext_getElem?;intro j;by_cases hj:j<1024
 ·have h1:=hc (j / 32) (by omega);have h2:∀ x:List Nat,((x.drop (32*(j / 32))).take 32)[j % 32]?=x[j]?:=fun x=>by
   rw[List.getElem?_take,if_pos (by omega),List.getElem?_drop]
   congr 1
   omega
  rw[<-h2 l,<-h2 m,h1]
 ·rw[List.getElem?_eq_none (by omega),List.getElem?_eq_none (by omega)]
def kdV (l:List Nat):List Value:=(List.range 32).map fun i=>.int .u64 (gk l i:Nat)
def stC (s:St):List Value:=kdV s.1++[.int .i64 (s.1.length:Nat),.int .i64 (s.2:Nat)]
theorem kdV_len (l:List Nat):(kdV l).length=32:=by simp[kdV]
theorem stC_len (s:St):(stC s).length=34:=by simp[stC,kdV_len]
theorem kdV_get (l:List Nat){i:Nat}(h:i<32):(kdV l)[i]?=some (.int .u64 (gk l i:Nat)):=by simp[kdV,h]
theorem stC_get (s:St){i:Nat}(h:i<32):(stC s)[i]?=some (.int .u64 (gk s.1 i:Nat)):=by
 unfold stC;rw[List.getElem?_append_left (by rw[kdV_len];exact h),kdV_get _ h]
theorem stC_ht (s:St):(stC s)[32]?=some (.int .i64 (s.1.length:Nat)):=by
 unfold stC;rw[List.getElem?_append_right (by rw[kdV_len];omega),kdV_len];rfl
theorem stC_rd (s:St):(stC s)[33]?=some (.int .i64 (s.2:Nat)):=by
 unfold stC;rw[List.getElem?_append_right (by rw[kdV_len];omega),kdV_len];rfl
theorem stC_one (s:St):∀ v ∈ stC s,v.oneCell'=true:=fun v hv=>by
 simp only[stC,kdV,List.mem_append,List.mem_map,List.mem_cons,List.not_mem_nil,or_false] at hv;rcases hv with ⟨i,_,rfl⟩|rfl|rfl<;>rfl
theorem stC_push (l:List Nat)(r k:Nat)(hl:l.length<1024):((stC (l,r)).set (l.length / 32) (.int .u64 ((gk l (l.length / 32)+k*4 ^ (l.length % 32):Nat):Nat))).set 32 (.int .i64 ((l.length+1:Nat):Nat))=stC (l++[k],r):=by
 apply List.ext_getElem?;intro i;rw[List.getElem?_set,List.getElem?_set];by_cases h32:i=32
 ·subst h32;rw[if_pos rfl,if_pos (by rw[List.length_set,stC_len];omega),stC_ht];simp
 ·rw[if_neg (fun e=>h32 e.symm)];by_cases hi:i<32
  ·rw[stC_get _ hi,stC_get _ hi]
   dsimp only
   rw[gk_snoc];by_cases e:l.length / 32=i
   ·rw[if_pos e,if_pos (by rw[stC_len];omega),if_pos e.symm,e]
   ·rw[if_neg e,if_neg (fun x=>e x.symm)]
  ·rw[if_neg (by omega)];by_cases h33:i=33
   ·subst h33;rw[stC_rd,stC_rd]
   ·rw[List.getElem?_eq_none (by rw[stC_len];omega),List.getElem?_eq_none (by rw[stC_len];omega)]
theorem stC_pop (l:List Nat)(r k:Nat)(hl:l.length<1024):((stC (l++[k],r)).set 32 (.int .i64 (l.length:Nat))).set (l.length / 32) (.int .u64 (gk l (l.length / 32):Nat))=stC (l,r):=by
 apply List.ext_getElem?;intro i;rw[List.getElem?_set,List.getElem?_set];by_cases hq:l.length / 32=i
 ·rw[if_pos hq,if_pos (by rw[List.length_set,stC_len];omega),stC_get _ (by omega),hq]
 ·rw[if_neg hq];by_cases h32:i=32
  ·subst h32;rw[if_pos rfl,if_pos (by rw[stC_len];omega),stC_ht]
  ·rw[if_neg (fun e=>h32 e.symm)];by_cases hi:i<32
   ·rw[stC_get _ hi,stC_get _ hi]
    dsimp only
    rw[gk_snoc,if_neg (fun e=>hq e.symm)]
   ·by_cases h33:i=33
    ·subst h33;rw[stC_rd,stC_rd]
    ·rw[List.getElem?_eq_none (by rw[stC_len];omega),List.getElem?_eq_none (by rw[stC_len];omega)]
theorem stC_rdset (s:St)(r:Nat):(stC s).set 33 (.int .i64 (r:Nat))=stC (s.1,r):=by
 unfold stC;rw[List.set_append_right _ _ (by rw[kdV_len];omega),kdV_len];rfl
theorem pow4 (r:Nat):(2:Nat) ^ (r*2)=4 ^ r:=by rw[Nat.mul_comm,Nat.pow_mul]
theorem pk_lt {k r:Nat}(hk:k<=3)(hr:r<32):k*4 ^ r<=3*4 ^ r/\4 ^ r*4<=18446744073709551616:=by
 refine⟨Nat.mul_le_mul_right _ hk,?_⟩;have h:(4:Nat) ^ (r+1)<=4 ^ 32:=Nat.pow_le_pow_right (by decide) (by omega);rw[Nat.pow_succ] at h;have h4:(4:Nat) ^ 32=18446744073709551616:=by decide
 omega
theorem pk_wrap {k r:Nat}(hk:k<=3)(hr:r<32):IntKind.u64.wrap (((k:Nat):Int)*2 ^ (r*2))=((k*4 ^ r:Nat):Int):=by
 obtain⟨h1,h2⟩:=pk_lt hk hr;have e:(((k:Nat):Int)*2 ^ (r*2))=((k*4 ^ r:Nat):Int):=by rw[<-pow4];simp
 rw[e,IntKind.wrap_u64];omega
theorem pk_or {a k r:Nat}(hk:k<=3)(hr:r<32)(ha:a<4 ^ r):bits .or .u64 (a:Int) ((k*4 ^ r:Nat):Int)=((a+k*4 ^ r:Nat):Int):=by
 obtain⟨h1,h2⟩:=pk_lt hk hr;rw[u64_or _ _ (by omega) (by omega) (by omega) (by omega),Int.toNat_natCast,Int.toNat_natCast,Nat.or_comm,
  nat_join (2*r) _ _ (by rw[Nat.mul_comm 2 r,pow4];exact Nat.mul_mod_left _ _) (by rw[Nat.mul_comm 2 r,pow4];exact ha)]
 omega
theorem pk_xor {a k r:Nat}(hk:k<=3)(hr:r<32)(ha:a<4 ^ r):bits .xor .u64 ((a+k*4 ^ r:Nat):Int) ((k*4 ^ r:Nat):Int)=(a:Int):=by
 obtain⟨h1,h2⟩:=pk_lt hk hr;have h3:(a+k*4 ^ r) ^^^ (k*4 ^ r)=a:=by
  have e:a+k*4 ^ r=k*4 ^ r ||| a:=by
   rw[nat_join (2*r) _ _ (by rw[Nat.mul_comm 2 r,pow4];exact Nat.mul_mod_left _ _) (by rw[Nat.mul_comm 2 r,pow4];exact ha)];omega
  rw[e];apply Nat.eq_of_testBit_eq;intro i;rw[Nat.testBit_xor,Nat.testBit_or];have hd:(k*4 ^ r).testBit i=true->a.testBit i=false:=fun h=>by
   have hi:2*r<=i:=by
    by_cases hx:i<2*r
    ·exfalso;rw[<-pow4,Nat.mul_comm r 2,Nat.testBit_mul_two_pow] at h;simp at h;omega
    ·omega
   apply Nat.testBit_lt_two_pow
   have:(2:Nat) ^ (2*r)<=2 ^ i:=Nat.pow_le_pow_right (by decide) hi
   rw[Nat.mul_comm 2 r,pow4] at this;omega
  cases h1:(k*4 ^ r).testBit i
  ·simp
  ·rw[hd h1];simp
 have hw:(a+k*4 ^ r)<18446744073709551616:=by omega
 rw[u64_xor _ _ (by omega) (by omega) (by omega) (by omega),Int.toNat_natCast,Int.toNat_natCast,h3]
theorem pk_shr {a k r:Nat}(hk:k<=3)(hr:r<32)(ha:a<4 ^ r):(((a+k*4 ^ r:Nat):Int) / 2 ^ (r*2))=(k:Int):=by
 have e:((2:Int) ^ (r*2))=((4 ^ r:Nat):Int):=by rw[<-pow4];simp
 rw[e];have h0:0<4 ^ r:=Nat.pow_pos (by decide);have h1:(a+k*4 ^ r) / 4 ^ r=k:=by
  rw[Nat.add_mul_div_right _ _ h0,Nat.div_eq_of_lt ha];omega
 rw[<-Int.natCast_ediv,h1]
theorem pk_and {k:Nat}(hk:k<=3):bits .and .u64 (k:Int) 3=(k:Int):=by
 have h:∀ k:Fin 4,bits .and .u64 ((k.val:Nat):Int) 3=((k.val:Nat):Int):=by decide +kernel
 exact h ⟨k,by omega⟩
end Go.Proofs.YtpdfdhkdfkhfkaaDoor
