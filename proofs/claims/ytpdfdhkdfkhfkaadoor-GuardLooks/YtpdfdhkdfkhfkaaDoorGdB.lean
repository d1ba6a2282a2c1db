import Derived.Test.YtpdfdhkdfkhfkaaDoorGrA
import Derived.Deep.MidRow
import Derived.BigRegion
set_option maxRecDepth 100000
set_option maxHeartbeats 8000000
namespace Go.Proofs.YtpdfdhkdfkhfkaaDoor
open Go.RowKit
set_option linter.unusedVariables false
set_option linter.unusedSimpArgs false
def grp:List Nat->Nat
 | []=>0
 | k::t=>k+4*grp t
def gk (l:List Nat)(i:Nat):Nat:=grp ((l.drop (32*i)).take 32)
theorem grp_lt:∀ l:List Nat,(∀ k ∈ l,k<=3)->grp l<4 ^ l.length
 | [],_=>by simp[grp]
 | k::t,h=>by
  have h1:=grp_lt t (fun x hx=>h x (List.mem_cons_of_mem _ hx));have h2:=h k (List.mem_cons_self ..);simp only[grp,List.length_cons,Nat.pow_succ];omega
theorem grp_snoc (k:Nat):∀ l:List Nat,grp (l++[k])=grp l+k*4 ^ l.length
 | []=>by simp[grp]
 | x::t=>by
  simp only[List.cons_append,grp,grp_snoc k t,List.length_cons,Nat.pow_succ];rw[Nat.mul_add,show k*(4 ^ t.length*4)=4*(k*4 ^ t.length) by rw[<-Nat.mul_assoc,Nat.mul_comm]];omega
theorem grp_inj:∀ l m:List Nat,(∀ k ∈ l,1<=k/\k<=3)->(∀ k ∈ m,1<=k/\k<=3)->grp l=grp m->l=m
 | [],[],_,_,_=>rfl
 | [],k::t,_,h,e=>by
  have:=h k (List.mem_cons_self ..)
  simp only[grp] at e;omega
 | k::t,[],h,_,e=>by
  have:=h k (List.mem_cons_self ..)
  simp only[grp] at e;omega
 | k::t,k'::t',h,h',e=>by
  have h1:=h k (List.mem_cons_self ..);have h2:=h' k' (List.mem_cons_self ..);simp only[grp] at e;have e1:k=k':=by omega
  have e2:grp t=grp t':=by omega
  rw[e1,grp_inj t t' (fun x hx=>h x (List.mem_cons_of_mem _ hx)) (fun x hx=>h' x (List.mem_cons_of_mem _ hx)) e2]
theorem gk_top {l:List Nat}(h:∀ k ∈ l,1<=k/\k<=3){h0:Nat}(hl:l.length=h0):gk l (h0 / 32)=grp (l.drop (32*(h0 / 32)))/\gk l (h0 / 32)<4 ^ (h0 % 32):=by
 have h1:(l.drop (32*(h0 / 32))).length=h0 % 32:=by rw[List.length_drop];omega
 have e:gk l (h0 / 32)=grp (l.drop (32*(h0 / 32))):=by
  unfold gk;rw[List.take_of_length_le (by omega)]
 refine⟨e,?_⟩;rw[e,<-h1];exact grp_lt _ (fun k hk=>(h k (List.mem_of_mem_drop hk)).2)
theorem gk_snoc (l:List Nat)(k i:Nat):gk (l++[k]) i=if i=l.length / 32 then gk l i+k*4 ^ (l.length % 32) else gk l i:=by
 by_cases h:i=l.length / 32
 ·rw[if_pos h];subst h;have h1:(l.drop (32*(l.length / 32))).length=l.length % 32:=by rw[List.length_drop];omega
  unfold gk;rw[List.drop_append_of_le_length (by omega),List.take_of_length_le (by simp;omega),List.take_of_length_le (by omega),grp_snoc,h1]
 ·rw[if_neg h];unfold gk;by_cases hi:i<l.length / 32
  ·rw[List.drop_append_of_le_length (by omega),List.take_append_of_le_length (by rw[List.length_drop];omega)]
  ·have h2:l.length<32*i:=by omega
   rw[List.drop_of_length_le (by simp;omega),List.drop_of_length_le (by omega)]
theorem gk_inj {l m:List Nat}(hl:∀ k ∈ l,1<=k/\k<=3)(hm:∀ k ∈ m,1<=k/\k<=3)(ll:l.length<=1024)(lm:m.length<=1024)(h:∀ i,i<32->gk l i=gk m i):l=m:=by
 have hc:∀ i,i<32->(l.drop (32*i)).take 32=(m.drop (32*i)).take 32:=fun i hi =>
  grp_inj _ _ (fun k hk=>hl k (List.mem_of_mem_drop (List.mem_of_mem_take hk))) (fun k hk=>hm k (List.mem_of_mem_drop (List.mem_of_mem_take hk))) (h i hi)
 apply List.ext_getElem?;intro j;by_cases hj:j<1024
 ·have h1:=hc (j / 32) (by omega);have h2:∀ x:List Nat,((x.drop (32*(j / 32))).take 32)[j % 32]?=x[j]?:=fun x=>by
   rw[List.getElem?_take,if_pos (by omega),List.getElem?_drop]
   congr 1
   omega
  rw[<-h2 l,<-h2 m,h1]
 ·rw[List.getElem?_eq_none (by omega),List.getElem?_eq_none (by omega)]
def kdV (l:List Nat):List Value:=(List.range 32).map fun i=>.int .u64 (gk l i:Nat)
def stC (s:St):List Value:=kdV s.1++[.int .i64 (s.1.length:Nat),.int .i64 (s.2:Nat)]
theorem kdV_len (l:List Nat):(kdV l).length=32:=by simp[kdV]
theorem stC_len (s:St):(stC s).length=34:=by simp[stC,kdV_len]
theorem kdV_get (l:List Nat){i:Nat}(h:i<32):(kdV l)[i]?=some (.int .u64 (gk l i:Nat)):=by simp[kdV,h]
theorem stC_get (s:St){i:Nat}(h:i<32):(stC s)[i]?=some (.int .u64 (gk s.1 i:Nat)):=by
 unfold stC;rw[List.getElem?_append_left (by rw[kdV_len];exact h),kdV_get _ h]
theorem stC_ht (s:St):(stC s)[32]?=some (.int .i64 (s.1.length:Nat)):=by
 unfold stC;rw[List.getElem?_append_right (by rw[kdV_len];omega),kdV_len];rfl
theorem stC_rd (s:St):(stC s)[33]?=some (.int .i64 (s.2:Nat)):=by
 unfold stC;rw[List.getElem?_append_right (by rw[kdV_len];omega),kdV_len];rfl
theorem stC_one (s:St):∀ v ∈ stC s,v.oneCell'=true:=fun v hv=>by
 simp only[stC,kdV,List.mem_append,List.mem_map,List.mem_cons,List.not_mem_nil,or_false] at hv;rcases hv with ⟨i,_,rfl⟩|rfl|rfl<;>rfl
theorem stC_push (l:List Nat)(r k:Nat)(hl:l.length<1024):((stC (l,r)).set (l.length / 32) (.int .u64 ((gk l (l.length / 32)+k*4 ^ (l.length % 32):Nat):Nat))).set 32 (.int .i64 ((l.length+1:Nat):Nat))=stC (l++[k],r):=by
 apply List.ext_getElem?;intro i;rw[List.getElem?_set,List.getElem?_set];by_cases h32:i=32
 ·subst h32;rw[if_pos rfl,if_pos (by rw[List.length_set,stC_len];omega),stC_ht];simp
 ·rw[if_neg (fun e=>h32 e.symm)];by_cases hi:i<32
  ·rw[stC_get _ hi,stC_get _ hi]
   dsimp only
   rw[gk_snoc];by_cases e:l.length / 32=i
   ·rw[if_pos e,if_pos (by rw[stC_len];omega),if_pos e.symm,e]
   ·rw[if_neg e,if_neg (fun x=>e x.symm)]
  ·rw[if_neg (by omega)];by_cases h33:i=33
   ·subst h33;rw[stC_rd,stC_rd]
   ·rw[List.getElem?_eq_none (by rw[stC_len];omega),List.getElem?_eq_none (by rw[stC_len];omega)]
theorem stC_pop (l:List Nat)(r k:Nat)(hl:l.length<1024):((stC (l++[k],r)).set 32 (.int .i64 (l.length:Nat))).set (l.length / 32) (.int .u64 (gk l (l.length / 32):Nat))=stC (l,r):=by
 apply List.ext_getElem?;intro i;rw[List.getElem?_set,List.getElem?_set];by_cases hq:l.length / 32=i
 ·rw[if_pos hq,if_pos (by rw[List.length_set,stC_len];omega),stC_get _ (by omega),hq]
 ·rw[if_neg hq];by_cases h32:i=32
  ·subst h32;rw[if_pos rfl,if_pos (by rw[stC_len];omega),stC_ht]
  ·rw[if_neg (fun e=>h32 e.symm)];by_cases hi:i<32
   ·rw[stC_get _ hi,stC_get _ hi]
    dsimp only
    rw[gk_snoc,if_neg (fun e=>hq e.symm)]
   ·by_cases h33:i=33
    ·subst h33;rw[stC_rd,stC_rd]
    ·rw[List.getElem?_eq_none (by rw[stC_len];omega),List.getElem?_eq_none (by rw[stC_len];omega)]
theorem stC_rdset (s:St)(r:Nat):(stC s).set 33 (.int .i64 (r:Nat))=stC (s.1,r):=by
 unfold stC;rw[List.set_append_right _ _ (by rw[kdV_len];omega),kdV_len];rfl
theorem pow4 (r:Nat):(2:Nat) ^ (r*2)=4 ^ r:=by rw[Nat.mul_comm,Nat.pow_mul]
theorem pk_lt {k r:Nat}(hk:k<=3)(hr:r<32):k*4 ^ r<=3*4 ^ r/\4 ^ r*4<=18446744073709551616:=by
 refine⟨Nat.mul_le_mul_right _ hk,?_⟩;have h:(4:Nat) ^ (r+1)<=4 ^ 32:=Nat.pow_le_pow_right (by decide) (by omega);rw[Nat.pow_succ] at h;have h4:(4:Nat) ^ 32=18446744073709551616:=by decide
 omega
theorem pk_wrap {k r:Nat}(hk:k<=3)(hr:r<32):IntKind.u64.wrap (((k:Nat):Int)*2 ^ (r*2))=((k*4 ^ r:Nat):Int):=by
 obtain⟨h1,h2⟩:=pk_lt hk hr;have e:(((k:Nat):Int)*2 ^ (r*2))=((k*4 ^ r:Nat):Int):=by rw[<-pow4];simp
 rw[e,IntKind.wrap_u64];omega
theorem pk_or {a k r:Nat}(hk:k<=3)(hr:r<32)(ha:a<4 ^ r):bits .or .u64 (a:Int) ((k*4 ^ r:Nat):Int)=((a+k*4 ^ r:Nat):Int):=by
 obtain⟨h1,h2⟩:=pk_lt hk hr;rw[u64_or _ _ (by omega) (by omega) (by omega) (by omega),Int.toNat_natCast,Int.toNat_natCast,Nat.or_comm,
  nat_join (2*r) _ _ (by rw[Nat.mul_comm 2 r,pow4];exact Nat.mul_mod_left _ _) (by rw[Nat.mul_comm 2 r,pow4];exact ha)]
 omega
theorem pk_xor {a k r:Nat}(hk:k<=3)(hr:r<32)(ha:a<4 ^ r):bits .xor .u64 ((a+k*4 ^ r:Nat):Int) ((k*4 ^ r:Nat):Int)=(a:Int):=by
 obtain⟨h1,h2⟩:=pk_lt hk hr;have h3:(a+k*4 ^ r) ^^^ (k*4 ^ r)=a:=by
  have e:a+k*4 ^ r=k*4 ^ r ||| a:=by
   rw[nat_join (2*r) _ _ (by rw[Nat.mul_comm 2 r,pow4];exact Nat.mul_mod_left _ _) (by rw[Nat.mul_comm 2 r,pow4];exact ha)];omega
  rw[e];apply Nat.eq_of_testBit_eq;intro i;rw[Nat.testBit_xor,Nat.testBit_or];have hd:(k*4 ^ r).testBit i=true->a.testBit i=false:=fun h=>by
   have hi:2*r<=i:=by
    by_cases hx:i<2*r
    ·exfalso;rw[<-pow4,Nat.mul_comm r 2,Nat.testBit_mul_two_pow] at h;simp at h;omega
    ·omega
   apply Nat.testBit_lt_two_pow
   have:(2:Nat) ^ (2*r)<=2 ^ i:=Nat.pow_le_pow_right (by decide) hi
   rw[Nat.mul_comm 2 r,pow4] at this;omega
  cases h1:(k*4 ^ r).testBit i
  ·simp
  ·rw[hd h1];simp
 have hw:(a+k*4 ^ r)<18446744073709551616:=by omega
 rw[u64_xor _ _ (by omega) (by omega) (by omega) (by omega),Int.toNat_natCast,Int.toNat_natCast,h3]
theorem pk_shr {a k r:Nat}(hk:k<=3)(hr:r<32)(ha:a<4 ^ r):(((a+k*4 ^ r:Nat):Int) / 2 ^ (r*2))=(k:Int):=by
 have e:((2:Int) ^ (r*2))=((4 ^ r:Nat):Int):=by rw[<-pow4];simp
 rw[e];have h0:0<4 ^ r:=Nat.pow_pos (by decide);have h1:(a+k*4 ^ r) / 4 ^ r=k:=by
  rw[Nat.add_mul_div_right _ _ h0,Nat.div_eq_of_lt ha];omega
 rw[<-Int.natCast_ediv,h1]
theorem pk_and {k:Nat}(hk:k<=3):bits .and .u64 (k:Int) 3=(k:Int):=by
 have h:∀ k:Fin 4,bits .and .u64 ((k.val:Nat):Int) 3=((k.val:Nat):Int):=by decide +kernel
 exact h ⟨k,by omega⟩
open Go.ChangeShapes Go.WideShapes Go.ChangeAt Go.RowKit
theorem infoW:(Tryd.prog.info? 53).map (fun i=>(i.zero,i.size,i.bytes))=some (some (.int .u64 0),1,8):=by kernel_rfl
theorem infoI:(Tryd.prog.info? 3).map (fun i=>(i.zero,i.size,i.bytes))=some (some (.int .i64 0),1,8):=by kernel_rfl
theorem infoS:(Tryd.prog.info? 9).map (fun i=>(i.zero,i.size,i.bytes))=some (some (.string ⟨#[]⟩),1,16):=by kernel_rfl
theorem one_one (v:Value)(h:v.oneCell'=true):∀ u ∈ [v],u.oneCell'=true:=by
 intro u hu;simp at hu;subst hu;exact h
abbrev nil4:Array Value:=#[.slice none 0 0,.slice none 0 0,.slice none 0 0,.slice none 0 0]
theorem cells4 {w:World}{b:Nat}{x0 x1 x2 x3:Value}{t:TypeId}(h:w.heap[b]?=some (.cells #[x0,x1,x2,x3] t)):(w.cell? ⟨b,0,none⟩=some x0/\w.cell? ⟨b,1,none⟩=some x1/\w.cell? ⟨b,2,none⟩=some x2/\w.cell? ⟨b,3,none⟩=some x3)/\∀ j,w.frozen? ⟨b,j,none⟩=false:=by
 refine⟨⟨?_,?_,?_,?_⟩,fun j=>?_⟩<;>simp[World.cell?,World.frozen?,h]
theorem set4c {w:World}{b:Nat}{x0 x1 x2 x3:Value}{t:TypeId}(y0 y1 y2 y3:Value)(h:w.heap[b]?=some (.cells #[x0,x1,x2,x3] t)):((((w.setCell ⟨b,0,none⟩ y0).setCell ⟨b,1,none⟩ y1).setCell ⟨b,2,none⟩ y2).setCell ⟨b,3,none⟩ y3).heap[b]?=some (.cells #[y0,y1,y2,y3] t) :=
 heap_setCell_same _ b 3 _ _ _ (heap_setCell_same _ b 2 _ _ _ (heap_setCell_same _ b 1 _ _ _ (heap_setCell_same w b 0 _ _ _ h)))
theorem Row.lsv {w:World}{o:Nat->Nat}{i:Nat}{e:TypeId}{ao:Option Addr}{n cap:Nat}{xs:List Value}(h:Row w o i e 1 (.slice ao n cap) n xs):Lsv w ao xs:=by
 by_cases hn:0<n
 ·obtain⟨g,c,hv,-,-,-,hlt,hc,-⟩:=h.pos hn;simp only[Value.slice.injEq,true_and] at hv;refine .inr ⟨g,0,hv.1,hlt,fun j x hx=>?_⟩;have hl:=h.len;have hj:j<n*1:=by have:=(List.getElem?_eq_some_iff.1 hx).1;omega
  rw[Nat.zero_add,hc j hj];exact hx
 ·have hl:=h.len;exact .inl (List.eq_nil_of_length_eq_zero (by omega))
theorem bdt {g:Nat}{a b c:World}(h:Below g a b)(k:Below b.heap.size b c)(hg:g<=b.heap.size):Below g a c:=h.trans (k.mono hg)
structure Kb (b:Nat)(w w':World):Prop where
 os:w'.os=w.os
 tape:w'.tape=w.tape
 output:w'.output=w.output
 size:w.heap.size<=w'.heap.size
 block:∀ k,k<w.heap.size->k≠b->w'.heap[k]?=w.heap[k]?
theorem Kb.refl (b:Nat)(w:World):Kb b w w:=⟨rfl,rfl,rfl,Nat.le_refl _,fun _ _ _=>rfl⟩
theorem Kb.trans {b:Nat}{x y z:World}(h:Kb b x y)(k:Kb b y z):Kb b x z :=
 ⟨k.os.trans h.os,k.tape.trans h.tape,k.output.trans h.output,Nat.le_trans h.size k.size,fun i hi hn=>(k.block i (Nat.lt_of_lt_of_le hi h.size) hn).trans (h.block i hi hn)⟩
theorem Kb.ofBelow {b:Nat}{w w':World}(h:Below w.heap.size w w'):Kb b w w':=⟨h.os,h.tape,h.output,h.size,fun k hk _=>h.block k hk⟩
theorem Kb.set {b:Nat}{a w:World}(h:Kb b a w)(n:Nat)(u:Value):Kb b a (w.setCell ⟨b,n,none⟩ u) :=
 h.trans ⟨rfl,rfl,rfl,by simp,fun k hk hn=>heap_setCell_other w _ k u hn⟩
theorem Kb.drew {b:Nat}{a w:World}(h:Kb b a w):Kb b a w.drew:=h.trans ⟨rfl,rfl,rfl,Nat.le_refl _,fun _ _ _=>rfl⟩
theorem Kb.step {b:Nat}{w w':World}(h:Kb b w w')(o:Nat->Nat){I:Nat->Prop}(hb:I (o b)):Step I w o w' o :=
 ⟨h.os,h.tape,h.output,h.size,fun _ _=>rfl,fun k hk hn=>h.block k hk (fun e=>hn (by rw[e];exact hb))⟩
theorem Kb.below {b n:Nat}{w w':World}(h:Kb b w w')(hb:n<=b)(hs:n<=w.heap.size):Below n w w':=⟨h.os,h.tape,h.output,h.size,fun k hk=>h.block k (by omega) (by omega)⟩
abbrev StB (w:World)(b:Nat)(s:St):Prop:=w.heap[b]?=some (.cells (stC s).toArray 78 (0,0))
theorem StB.lt {w:World}{b:Nat}{s:St}(h:StB w b s):b<w.heap.size:=lt_of_block h
theorem blk_cell {w:World}{b:Nat}{cs:List Value}{t:TypeId}(h:w.heap[b]?=some (.cells cs.toArray t (0,0)))(j:Nat):w.cell? ⟨b,j,none⟩=cs[j]?:=by
 rw[cell_of_row w b j _ t (0,0) h];simp
theorem blk_frz {w:World}{b:Nat}{cs:List Value}{t:TypeId}(h:w.heap[b]?=some (.cells cs.toArray t (0,0)))(j:Nat):w.frozen? ⟨b,j,none⟩=false :=
 frozen_of_row w b j _ t h
theorem blk_set {w:World}{b n:Nat}{cs:List Value}{t:TypeId}(h:w.heap[b]?=some (.cells cs.toArray t (0,0)))(u:Value):(w.setCell ⟨b,n,none⟩ u).heap[b]?=some (.cells (cs.set n u).toArray t (0,0)):=by
 have:=heap_setCell_same w b n _ t u h
 simpa using this
theorem ret_two2 {a b c d:Int}(h:a=b)(g:c=d):Ending.returned (.tuple #[.int .i64 a,.int .i64 c])=.returned (.tuple #[.int .i64 b,.int .i64 d]):=by rw[h,g]
theorem place_c (h:Nat)(w:World)(hh:h<=1024):Calls Tryd.prog 67 #[.int .i64 (h:Nat)] w fun e w'=>e=.returned (.tuple #[.int .i64 ((h / 32:Nat):Nat),.int .i64 ((h % 32*2:Nat):Nat)])/\w'=w:=by
 go_enter Tryd.func67,Tryd.ntmps67;go_wp2;go_ret2;exact⟨ret_two2 (by omega) (by omega),rfl⟩
def PostPu (b:Nat)(s:St)(k:Nat)(w:World)(e:Ending)(w':World):Prop :=
 Kb b w w'/\if s.1.length<1024 then e=.returned (.bool true)/\StB w' b (s.1++[k],s.2) else e=.returned (.bool false)
theorem push_c (b:Nat)(s:St)(k:Nat)(w:World)(S:StOk s)(hk:1<=k/\k<=3)(hB:StB w b s) :
  Calls Tryd.prog 60 #[.pointer (some ⟨b,0,none⟩),.int .i64 (k:Nat)] w (PostPu b s k w):=by
 obtain⟨l,r⟩:=s;have hlen:=S.len;simp only at hlen;have c32:=(blk_cell hB 32).trans (stC_ht (l,r));have f32:=blk_frz hB 32;obtain⟨h,hh⟩:∃h,h=l.length:=⟨_,rfl⟩
 simp only[<-hh] at c32 hlen;by_cases hlt:h<1024
 ·have hP:Hid (∀ e w',e=.returned (.bool true)->Kb b w w'->StB w' b (l++[k],r)->PostPu b (l,r) k w e w'):=fun e w' h1 h2 h3=>⟨h2,by rw[if_pos (by show l.length<1024;omega)];exact⟨h1,h3⟩⟩;have cq:=(blk_cell hB (h / 32)).trans (stC_get (l,r) (by omega));have fq:=blk_frz hB (h / 32);have hlt2:=(gk_top S.kd hh.symm).2;have hsp:=stC_push l r k (by omega);rw[<-hh] at hsp;simp only at cq hlt2;generalize gk l (h / 32)=a at *;have hne:¬(h:Int)=1024:=by omega
  have PC:=fun w=>place_c h w (by omega);have hkw:IntKind.u64.wrap ((k:Nat):Int)=(k:Int):=by rw[IntKind.wrap_u64];omega
  obtain⟨q,hq⟩:∃q,q=h / 32:=⟨_,rfl⟩
  obtain⟨m,hm⟩:∃m,m=h % 32:=⟨_,rfl⟩
  have e1:=pk_wrap (k:=k) (r:=m) hk.2 (by omega);have e2:=pk_or (a:=a) (k:=k) (r:=m) hk.2 (by omega) (by rw[hm];exact hlt2);rw[<-hq,<-hm] at hsp PC;rw[<-hq] at cq fq;have hq32:q<32:=by omega
  have hm32:m<32:=by omega
  have hqn:q≠32:=by omega
  obtain⟨n,hn⟩:∃n,n=a+k*4 ^ m:=⟨_,rfl⟩
  obtain⟨u,hu⟩:∃u,u=k*4 ^ m:=⟨_,rfl⟩
  rw[<-hn] at e2 hsp;rw[<-hu] at e1 e2;obtain⟨w1,hw1⟩:∃w1,w1=(w.setCell ⟨b,q,none⟩ (.int .u64 (n:Nat))).drew:=⟨_,rfl⟩
  have HB1:w1.heap[b]?=some (.cells ((stC (l,r)).set q (.int .u64 (n:Nat))).toArray 78 (0,0)):=by rw[hw1];exact blk_set hB _
  have HK1:Kb b w w1:=by rw[hw1];exact((Kb.refl b w).set q _).drew
  have d32:w1.cell? ⟨b,32,none⟩=some (.int .i64 (h:Nat)):=by
   rw[blk_cell HB1,List.getElem?_set,if_neg hqn,stC_ht,hh]
  have g32:=blk_frz HB1 32;have HB2:StB (w1.setCell ⟨b,32,none⟩ (.int .i64 ((h+1:Nat):Nat))) b (l++[k],r):=by
   have:=blk_set (n:=32) HB1 (.int .i64 ((h+1:Nat):Nat))
   rw[hsp] at this;exact this
  have HZ:=Lib.hid (hP.out _ _ rfl (HK1.set 32 (.int .i64 ((h+1:Nat):Nat))) HB2);have HW1:=Lib.hid hw1;have E1:=Lib.hid e1;have E2:=Lib.hid e2;have hhI:((h:Int)+1)=((h+1:Nat):Int):=by omega
  have HI:=Lib.hid hhI;clear hP hw1 HB1 HK1 HB2 hsp hn hu hq hm e1 e2 hh S hB hlt2 hhI;go_enter Tryd.func60,Tryd.ntmps60;go_upto_region 4 with (go_at_call 67;refine(PC _).mono ?_;rintro e w1 ⟨rfl,rfl⟩)
  go_region;rw[E1.out,E2.out,<-HW1.out];clear HW1 c32 f32 cq fq;go_wp2;go_ret
  first|exact HZ.out|(rw[HI.out];exact HZ.out)
 ·have hP:Hid (∀ e w',e=.returned (.bool false)->Kb b w w'->PostPu b (l,r) k w e w'):=fun e w' h1 h2=>⟨h2,by rw[if_neg (by show ¬l.length<1024;omega)];exact h1⟩;obtain rfl:h=1024:=by omega
  clear hh S;go_enter Tryd.func60,Tryd.ntmps60;go_wp2;go_ret;exact hP.out _ _ rfl (Kb.refl _ _)
def PostPo (b:Nat)(s:St)(w:World)(e:Ending)(w':World):Prop :=
 Kb b w w'/\((s.1=[]/\e=.returned (.int .i64 0))\/∃l k,s.1=l++[k]/\e=.returned (.int .i64 (k:Nat))/\StB w' b (l,s.2))
theorem pop_c (b:Nat)(s:St)(w:World)(S:StOk s)(hB:StB w b s) :
  Calls Tryd.prog 55 #[.pointer (some ⟨b,0,none⟩)] w (PostPo b s w):=by
 obtain⟨l0,r⟩:=s;rcases List.eq_nil_or_concat l0 with rfl|⟨l,k,hlk⟩
 ·have c32:=(blk_cell hB 32).trans (stC_ht ([],r));have hP:Hid (PostPo b ([],r) w (.returned (.int .i64 0)) w):=⟨Kb.refl _ _,.inl ⟨rfl,rfl⟩⟩
  clear S hB;simp only[List.length_nil] at c32;go_enter Tryd.func55,Tryd.ntmps55;go_wp2;go_ret;exact hP.out
 ·rw[List.concat_eq_append] at hlk;subst hlk;have hlen:=S.len;have hk:=S.kd k (by simp);have Sl:∀ x ∈ l,1<=x/\x<=3:=fun x hx=>S.kd x (List.mem_append_left _ hx);simp only[List.length_append,List.length_cons,List.length_nil] at hlen;have c32:=(blk_cell hB 32).trans (stC_ht (l++[k],r));have f32:=blk_frz hB 32;obtain⟨h,hh⟩:∃h,h=l.length:=⟨_,rfl⟩
  simp only[List.length_append,List.length_cons,List.length_nil,<-hh] at c32 hlen;have hlt:h<1024:=by omega
  have hP:Hid (∀ w',Kb b w w'->StB w' b (l,r)->PostPo b (l++[k],r) w (.returned (.int .i64 (k:Nat))) w'):=fun w' h2 h3=>⟨h2,.inr ⟨l,k,rfl,rfl,h3⟩⟩;have cq:=(blk_cell hB (h / 32)).trans (stC_get (l++[k],r) (by omega));have fq:=blk_frz hB (h / 32);have hlt2:=(gk_top Sl hh.symm).2;have hsp:=stC_pop l r k (by omega);rw[<-hh] at hsp;rw[gk_snoc,<-hh,if_pos rfl] at cq;try simp only at cq
  generalize gk l (h / 32)=a at *;have hne:¬((h+1:Nat):Int)=0:=by omega
  have PC:=fun w=>place_c h w (by omega);obtain⟨q,hq⟩:∃q,q=h / 32:=⟨_,rfl⟩
  obtain⟨m,hm⟩:∃m,m=h % 32:=⟨_,rfl⟩
  rw[<-hq,<-hm] at PC;rw[<-hq] at cq fq hsp;rw[<-hm] at cq hlt2;have e1:=pk_wrap (k:=k) (r:=m) hk.2 (by omega);have e2:=pk_xor (a:=a) (k:=k) (r:=m) hk.2 (by omega) hlt2;have e3:=pk_shr (a:=a) (k:=k) (r:=m) hk.2 (by omega) hlt2;have e4:=pk_and (k:=k) hk.2;have hn64:a+k*4 ^ m<18446744073709551616:=by
   have:=pk_lt (k:=k) (r:=m) hk.2 (by omega)
   omega
  have hq32:q<32:=by omega
  have hm32:m<32:=by omega
  have hqn:q≠32:=by omega
  obtain⟨n,hn⟩:∃n,n=a+k*4 ^ m:=⟨_,rfl⟩
  obtain⟨u,hu⟩:∃u,u=k*4 ^ m:=⟨_,rfl⟩
  rw[<-hn] at e3 cq;rw[<-hu] at e1 e2;rw[hu,<-hn,<-hu] at e2;have hhI:(((h+1:Nat):Int)-1)=(h:Int):=by omega
  obtain⟨H,hH⟩:∃H,H=h+1:=⟨_,rfl⟩
  rw[<-hH] at c32 hne hhI;have hHI:(H:Int)<=1024/\0<(H:Int):=by omega
  obtain⟨w1,hw1⟩:∃w1,w1=w.setCell ⟨b,32,none⟩ (.int .i64 (h:Nat)):=⟨_,rfl⟩
  have HB1:w1.heap[b]?=some (.cells ((stC (l++[k],r)).set 32 (.int .i64 (h:Nat))).toArray 78 (0,0)):=by rw[hw1];exact blk_set hB _
  have HK1:Kb b w w1:=by rw[hw1];exact((Kb.refl b w).set 32 _)
  have d32:w1.cell? ⟨b,32,none⟩=some (.int .i64 (h:Nat)):=by
   rw[blk_cell HB1,List.getElem?_set,if_pos rfl,if_pos (by rw[stC_len];omega)]
  have dq:w1.cell? ⟨b,q,none⟩=some (.int .u64 (n:Nat)):=by
   rw[blk_cell HB1,List.getElem?_set,if_neg (fun e=>hqn e.symm),<-blk_cell hB,cq]
  have gq:=blk_frz HB1 q;have HB2:StB (w1.setCell ⟨b,q,none⟩ (.int .u64 (a:Nat))).drew b (l,r):=by
   have:=blk_set (n:=q) HB1 (.int .u64 (a:Nat))
   rw[hsp] at this;exact this
  have HZ:=Lib.hid (hP.out _ ((HK1.set q (.int .u64 (a:Nat))).drew) HB2);have HW1:=Lib.hid hw1;have E1:=Lib.hid e1;have E2:=Lib.hid e2;have E3:=Lib.hid e3;have E4:=Lib.hid e4;have HI:=Lib.hid hhI;have EN:IntKind.i64.wrap ((k:Nat):Int)=(k:Int):=by rw[IntKind.wrap_i64];omega
  clear hP hw1 HB1 HK1 HB2 hsp hn hu hq hm e1 e2 e3 e4 hh S hB hlt2 hhI hH Sl cq fq;go_enter Tryd.func55,Tryd.ntmps55;go_upto_region 4 with fail;rw[HI.out,<-HW1.out];clear HW1 c32 f32;go_upto_region 6 with (go_at_call 67;refine(PC _).mono ?_;rintro e w1 ⟨rfl,rfl⟩)
  rw[E3.out,E4.out];go_region;rw[E1.out,E2.out];have HZ':=HZ.out;clear HZ d32 dq gq;generalize (w1.setCell ⟨b,q,none⟩ (.int .u64 (a:Nat))).drew=w2 at *;go_wp2;go_ret;exact HZ'
end Go.Proofs.YtpdfdhkdfkhfkaaDoor
