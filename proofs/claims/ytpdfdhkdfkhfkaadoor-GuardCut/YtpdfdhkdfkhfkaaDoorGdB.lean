import Derived.Test.YtpdfdhkdfkhfkaaDoorGbL
import Derived.Test.YtpdfdhkdfkhfkaaDoorProg
import Derived.BigRegion
set_option maxRecDepth 100000
set_option maxHeartbeats 8000000
namespace Go.Proofs.YtpdfdhkdfkhfkaaDoor
open Go.ChangeShapes Go.WideShapes Go.ChangeAt Go.RowKit
set_option linter.unusedVariables false
set_option linter.unusedSimpArgs false
structure Kb (b:Nat)(w w':World):Prop where
 os:w'.os=w.os
 tape:w'.tape=w.tape
 output:w'.output=w.output
 size:w.heap.size<=w'.heap.size
 block:∀ k,k<w.heap.size->k≠b->w'.heap[k]?=w.heap[k]?
theorem Kb.refl (b:Nat)(w:World):Kb b w w:=⟨rfl,rfl,rfl,Nat.le_refl _,fun _ _ _=>rfl⟩
theorem Kb.trans {b:Nat}{x y z:World}(h:Kb b x y)(k:Kb b y z):Kb b x z :=
 ⟨k.os.trans h.os,k.tape.trans h.tape,k.output.trans h.output,Nat.le_trans h.size k.size,fun i hi hn=>(k.block i (Nat.lt_of_lt_of_le hi h.size) hn).trans (h.block i hi hn)⟩
theorem Kb.ofBelow {b:Nat}{w w':World}(h:Below w.heap.size w w'):Kb b w w':=⟨h.os,h.tape,h.output,h.size,fun k hk _=>h.block k hk⟩
theorem Kb.set {b:Nat}{a w:World}(h:Kb b a w)(n:Nat)(u:Value):Kb b a (w.setCell ⟨b,n,none⟩ u) :=
 h.trans ⟨rfl,rfl,rfl,by simp,fun k hk hn=>heap_setCell_other w _ k u hn⟩
theorem Kb.drew {b:Nat}{a w:World}(h:Kb b a w):Kb b a w.drew:=h.trans ⟨rfl,rfl,rfl,Nat.le_refl _,fun _ _ _=>rfl⟩
theorem Kb.step {b:Nat}{w w':World}(h:Kb b w w')(o:Nat->Nat){I:Nat->Prop}(hb:I (o b)):Step I w o w' o :=
 ⟨h.os,h.tape,h.output,h.size,fun _ _=>rfl,fun k hk hn=>h.block k hk (fun e=>hn (by rw[e];exact hb))⟩
theorem Kb.below {b n:Nat}{w w':World}(h:Kb b w w')(hb:n<=b)(hs:n<=w.heap.size):Below n w w':=⟨h.os,h.tape,h.output,h.size,fun k hk=>h.block k (by omega) (by omega)⟩
abbrev StB (w:World)(b:Nat)(s:St):Prop:=w.heap[b]?=some (.cells (stC s).toArray 78 (0,0))
theorem StB.lt {w:World}{b:Nat}{s:St}(h:StB w b s):b<w.heap.size:=lt_of_block h
theorem blk_cell {w:World}{b:Nat}{cs:List Value}{t:TypeId}(h:w.heap[b]?=some (.cells cs.toArray t (0,0)))(j:Nat):w.cell? ⟨b,j,none⟩=cs[j]?:=by
 rw[cell_of_row w b j _ t (0,0) h];simp
theorem blk_frz {w:World}{b:Nat}{cs:List Value}{t:TypeId}(h:w.heap[b]?=some (.cells cs.toArray t (0,0)))(j:Nat):w.frozen? ⟨b,j,none⟩=false :=
 frozen_of_row w b j _ t h
theorem blk_set {w:World}{b n:Nat}{cs:List Value}{t:TypeId}(h:w.heap[b]?=some (.cells cs.toArray t (0,0)))(u:Value):(w.setCell ⟨b,n,none⟩ u).heap[b]?=some (.cells (cs.set n u).toArray t (0,0)):=by
 have:=heap_setCell_same w b n _ t u h
 simpa using this
theorem ret_two2 {a b c d:Int}(h:a=b)(g:c=d):Ending.returned (.tuple #[.int .i64 a,.int .i64 c])=.returned (.tuple #[.int .i64 b,.int .i64 d]):=by rw[h,g]
theorem place_c (h:Nat)(w:World)(hh:h<=1024):Calls Tryd.prog 67 #[.int .i64 (h:Nat)] w fun e w'=>e=.returned (.tuple #[.int .i64 ((h / 32:Nat):Nat),.int .i64 ((h % 32*2:Nat):Nat)])/\w'=w:=by
 go_enter Tryd.func67,Tryd.ntmps67;go_wp2;go_ret2;exact⟨ret_two2 (by omega) (by omega),rfl⟩
def PostPu (b:Nat)(s:St)(k:Nat)(w:World)(e:Ending)(w':World):Prop :=
 Kb b w w'/\if s.1.length<1024 then e=.returned (.bool true)/\StB w' b (s.1++[k],s.2) else e=.returned (.bool false)
theorem push_c (b:Nat)(s:St)(k:Nat)(w:World)(S:StOk s)(hk:1<=k/\k<=3)(hB:StB w b s) :
  Calls Tryd.prog 60 #[.pointer (some ⟨b,0,none⟩),.int .i64 (k:Nat)] w (PostPu b s k w):=by
 obtain⟨l,r⟩:=s;have hlen:=S.len;simp only at hlen;have c32:=(blk_cell hB 32).trans (stC_ht (l,r));have f32:=blk_frz hB 32;obtain⟨h,hh⟩:∃h,h=l.length:=⟨_,rfl⟩
 simp only[<-hh] at c32 hlen;by_cases hlt:h<1024
 ·have hP:Hid (∀ e w',e=.returned (.bool true)->Kb b w w'->StB w' b (l++[k],r)->PostPu b (l,r) k w e w'):=fun e w' h1 h2 h3=>⟨h2,by rw[if_pos (by show l.length<1024;omega)];exact⟨h1,h3⟩⟩;have cq:=(blk_cell hB (h / 32)).trans (stC_get (l,r) (by omega));have fq:=blk_frz hB (h / 32);have hlt2:=(gk_top S.kd hh.symm).2;have hsp:=stC_push l r k (by omega);rw[<-hh] at hsp;simp only at cq hlt2;generalize gk l (h / 32)=a at *;have hne:¬(h:Int)=1024:=by omega
  have PC:=fun w=>place_c h w (by omega);have hkw:IntKind.u64.wrap ((k:Nat):Int)=(k:Int):=by rw[IntKind.wrap_u64];omega
  obtain⟨q,hq⟩:∃q,q=h / 32:=⟨_,rfl⟩
  obtain⟨m,hm⟩:∃m,m=h % 32:=⟨_,rfl⟩
  have e1:=pk_wrap (k:=k) (r:=m) hk.2 (by omega);have e2:=pk_or (a:=a) (k:=k) (r:=m) hk.2 (by omega) (by rw[hm];exact hlt2);rw[<-hq,<-hm] at hsp PC;rw[<-hq] at cq fq;have hq32:q<32:=by omega
  have hm32:m<32:=by omega
  have hqn:q≠32:=by omega
  obtain⟨n,hn⟩:∃n,n=a+k*4 ^ m:=⟨_,rfl⟩
  obtain⟨u,hu⟩:∃u,u=k*4 ^ m:=⟨_,rfl⟩
  rw[<-hn] at e2 hsp;rw[<-hu] at e1 e2;obtain⟨w1,hw1⟩:∃w1,w1=(w.setCell ⟨b,q,none⟩ (.int .u64 (n:Nat))).drew:=⟨_,rfl⟩
  have HB1:w1.heap[b]?=some (.cells ((stC (l,r)).set q (.int .u64 (n:Nat))).toArray 78 (0,0)):=by rw[hw1];exact blk_set hB _
  have HK1:Kb b w w1:=by rw[hw1];exact((Kb.refl b w).set q _).drew
  have d32:w1.cell? ⟨b,32,none⟩=some (.int .i64 (h:Nat)):=by
   rw[blk_cell HB1,List.getElem?_set,if_neg hqn,stC_ht,hh]
  have g32:=blk_frz HB1 32;have HB2:StB (w1.setCell ⟨b,32,none⟩ (.int .i64 ((h+1:Nat):Nat))) b (l++[k],r):=by
   have:=blk_set (n:=32) HB1 (.int .i64 ((h+1:Nat):Nat))
   rw[hsp] at this;exact this
  have HZ:=Lib.hid (hP.out _ _ rfl (HK1.set 32 (.int .i64 ((h+1:Nat):Nat))) HB2);have HW1:=Lib.hid hw1;have E1:=Lib.hid e1;have E2:=Lib.hid e2;have hhI:((h:Int)+1)=((h+1:Nat):Int):=by omega
  have HI:=Lib.hid hhI;clear hP hw1 HB1 HK1 HB2 hsp hn hu hq hm e1 e2 hh S hB hlt2 hhI;go_enter Tryd.func60,Tryd.ntmps60;go_upto_region 4 with (go_at_call 67;refine(PC _).mono ?_;rintro e w1 ⟨rfl,rfl⟩)
  go_region;rw[E1.out,E2.out,<-HW1.out];clear HW1 c32 f32 cq fq;go_wp2;go_ret
  first|exact HZ.out|(rw[HI.out];exact HZ.out)
 ·have hP:Hid (∀ e w',e=.returned (.bool false)->Kb b w w'->PostPu b (l,r) k w e w'):=fun e w' h1 h2=>⟨h2,by rw[if_neg (by show ¬l.length<1024;omega)];exact h1⟩;obtain rfl:h=1024:=by omega
  clear hh S;go_enter Tryd.func60,Tryd.ntmps60;go_wp2;go_ret;exact hP.out _ _ rfl (Kb.refl _ _)
def PostPo (b:Nat)(s:St)(w:World)(e:Ending)(w':World):Prop :=
 Kb b w w'/\((s.1=[]/\e=.returned (.int .i64 0))\/∃l k,s.1=l++[k]/\e=.returned (.int .i64 (k:Nat))/\StB w' b (l,s.2))
theorem pop_c (b:Nat)(s:St)(w:World)(S:StOk s)(hB:StB w b s) :
  Calls Tryd.prog 55 #[.pointer (some ⟨b,0,none⟩)] w (PostPo b s w):=by
 obtain⟨l0,r⟩:=s;rcases List.eq_nil_or_concat l0 with rfl|⟨l,k,hlk⟩
 ·have c32:=(blk_cell hB 32).trans (stC_ht ([],r));have hP:Hid (PostPo b ([],r) w (.returned (.int .i64 0)) w):=⟨Kb.refl _ _,.inl ⟨rfl,rfl⟩⟩
  clear S hB;simp only[List.length_nil] at c32;go_enter Tryd.func55,Tryd.ntmps55;go_wp2;go_ret;exact hP.out
 ·rw[List.concat_eq_append] at hlk;subst hlk;have hlen:=S.len;have hk:=S.kd k (by simp);have Sl:∀ x ∈ l,1<=x/\x<=3:=fun x hx=>S.kd x (List.mem_append_left _ hx);simp only[List.length_append,List.length_cons,List.length_nil] at hlen;have c32:=(blk_cell hB 32).trans (stC_ht (l++[k],r));have f32:=blk_frz hB 32;obtain⟨h,hh⟩:∃h,h=l.length:=⟨_,rfl⟩
  simp only[List.length_append,List.length_cons,List.length_nil,<-hh] at c32 hlen;have hlt:h<1024:=by omega
  have hP:Hid (∀ w',Kb b w w'->StB w' b (l,r)->PostPo b (l++[k],r) w (.returned (.int .i64 (k:Nat))) w'):=fun w' h2 h3=>⟨h2,.inr ⟨l,k,rfl,rfl,h3⟩⟩;have cq:=(blk_cell hB (h / 32)).trans (stC_get (l++[k],r) (by omega));have fq:=blk_frz hB (h / 32);have hlt2:=(gk_top Sl hh.symm).2;have hsp:=stC_pop l r k (by omega);rw[<-hh] at hsp;rw[gk_snoc,<-hh,if_pos rfl] at cq;try simp only at cq
  generalize gk l (h / 32)=a at *;have hne:¬((h+1:Nat):Int)=0:=by omega
  have PC:=fun w=>place_c h w (by omega);obtain⟨q,hq⟩:∃q,q=h / 32:=⟨_,rfl⟩
  obtain⟨m,hm⟩:∃m,m=h % 32:=⟨_,rfl⟩
  rw[<-hq,<-hm] at PC;rw[<-hq] at cq fq hsp;rw[<-hm] at cq hlt2;have e1:=pk_wrap (k:=k) (r:=m) hk.2 (by omega);have e2:=pk_xor (a:=a) (k:=k) (r:=m) hk.2 (by omega) hlt2;have e3:=pk_shr (a:=a) (k:=k) (r:=m) hk.2 (by omega) hlt2;have e4:=pk_and (k:=k) hk.2;have hn64:a+k*4 ^ m<18446744073709551616:=by
   have:=pk_lt (k:=k) (r:=m) hk.2 (by omega)
   omega
  have hq32:q<32:=by omega
  have hm32:m<32:=by omega
  have hqn:q≠32:=by omega
  obtain⟨n,hn⟩:∃n,n=a+k*4 ^ m:=⟨_,rfl⟩
  obtain⟨u,hu⟩:∃u,u=k*4 ^ m:=⟨_,rfl⟩
  rw[<-hn] at e3 cq;rw[<-hu] at e1 e2;rw[hu,<-hn,<-hu] at e2;have hhI:(((h+1:Nat):Int)-1)=(h:Int):=by omega
  obtain⟨H,hH⟩:∃H,H=h+1:=⟨_,rfl⟩
  rw[<-hH] at c32 hne hhI;have hHI:(H:Int)<=1024/\0<(H:Int):=by omega
  obtain⟨w1,hw1⟩:∃w1,w1=w.setCell ⟨b,32,none⟩ (.int .i64 (h:Nat)):=⟨_,rfl⟩
  have HB1:w1.heap[b]?=some (.cells ((stC (l++[k],r)).set 32 (.int .i64 (h:Nat))).toArray 78 (0,0)):=by rw[hw1];exact blk_set hB _
  have HK1:Kb b w w1:=by rw[hw1];exact((Kb.refl b w).set 32 _)
  have d32:w1.cell? ⟨b,32,none⟩=some (.int .i64 (h:Nat)):=by
   rw[blk_cell HB1,List.getElem?_set,if_pos rfl,if_pos (by rw[stC_len];omega)]
  have dq:w1.cell? ⟨b,q,none⟩=some (.int .u64 (n:Nat)):=by
   rw[blk_cell HB1,List.getElem?_set,if_neg (fun e=>hqn e.symm),<-blk_cell hB,cq]
  have gq:=blk_frz HB1 q;have HB2:StB (w1.setCell ⟨b,q,none⟩ (.int .u64 (a:Nat))).drew b (l,r):=by
   have:=blk_set (n:=q) HB1 (.int .u64 (a:Nat))
   rw[hsp] at this;exact this
  have HZ:=Lib.hid (hP.out _ ((HK1.set q (.int .u64 (a:Nat))).drew) HB2);have HW1:=Lib.hid hw1;have E1:=Lib.hid e1;have E2:=Lib.hid e2;have E3:=Lib.hid e3;have E4:=Lib.hid e4;have HI:=Lib.hid hhI;have EN:IntKind.i64.wrap ((k:Nat):Int)=(k:Int):=by rw[IntKind.wrap_i64];omega
  clear hP hw1 HB1 HK1 HB2 hsp hn hu hq hm e1 e2 e3 e4 hh S hB hlt2 hhI hH Sl cq fq;go_enter Tryd.func55,Tryd.ntmps55;go_upto_region 4 with fail;rw[HI.out,<-HW1.out];clear HW1 c32 f32;go_upto_region 6 with (go_at_call 67;refine(PC _).mono ?_;rintro e w1 ⟨rfl,rfl⟩)
  rw[E3.out,E4.out];go_region;rw[E1.out,E2.out];have HZ':=HZ.out;clear HZ d32 dq gq;generalize (w1.setCell ⟨b,q,none⟩ (.int .u64 (a:Nat))).drew=w2 at *;go_wp2;go_ret;exact HZ'
end Go.Proofs.YtpdfdhkdfkhfkaaDoor
