import Derived.Test.YtaihhnlfcndecaaGreatDoorRdqB
import Derived.Deep.RegionHeld3
import Derived.Deep.RegionWith
import Derived.Deep.LoopGhost
set_option maxRecDepth 100000
set_option maxHeartbeats 8000000
namespace Go.Proofs.YtaihhnlfcndecaaGreatDoor
open Go.ChangeShapes Go.WideShapes Go.ChangeAt Go.RowKit
set_option linter.unusedVariables false
set_option linter.unusedSimpArgs false
theorem QS.ok {w:World}{rb o q:Nat}{all:List Tk}{x:Tk}{r:List Tk}(h:QS w rb all o q (.inr (x::r))) :
  ∃i g cap L:Nat,g<rb/\i<L/\L<=cap/\cap<=9223372036854775807/\L<=3000/\x ∈ all/\w.cell? ⟨rb,0,none⟩=some (.slice (some ⟨g,0,none⟩) L cap)/\w.cell? ⟨rb,1,none⟩=some (.int .i64 (i:Nat))/\w.cell? ⟨rb,2,none⟩=some (.int .i64 (o:Nat))/\w.cell? ⟨rb,3,none⟩=some (.int .i64 (q:Nat))/\w.cell? ⟨rb,4,none⟩=some (.int .i64 0)/\(w.cell? ⟨g,i*4,none⟩=some (.int .i64 (x.k:Nat))/\w.cell? ⟨g,i*4+1,none⟩=some (.int .i64 x.n)/\w.cell? ⟨g,i*4+2,none⟩=some (stv x.t)/\w.cell? ⟨g,i*4+3,none⟩=some (.int .i64 (x.a:Nat)))/\(∀ j,w.frozen? ⟨rb,j,none⟩=false):=by
 obtain ⟨i,pl,h1,h2,h3⟩:=h;obtain ⟨hx,h4,hm⟩:=dropQ h2;obtain ⟨g,cap,L,hg,hi,hc,hm2,hL,⟨c0,c1,t0,t1,t2,t3⟩,c2,c3,c4,c5,hf⟩:=h1.next hx;exact ⟨i,g,cap,L,hg,hi,hc,hm2,hL,hm,c0,c1,c2,c3,c4,⟨t0,t1,t2,t3⟩,hf⟩
theorem QS.over {w:World}{rb o q:Nat}{all:List Tk}{x:Tk}{r:List Tk}(h:QS w rb all o q (.inr (x::r)))(hx:x.t≠[]\/x.k≠0){i:Nat}(hi:w.cell? ⟨rb,1,none⟩=some (.int .i64 (i:Nat))) :
  QS (w.setCell ⟨rb,1,none⟩ (.int .i64 ((i:Int)+1))) rb all o q (.inr r):=by
 obtain ⟨i2,pl,h1,h2,h3⟩:=h;obtain ⟨hx2,h4,hm⟩:=dropQ h2;obtain ⟨_,_,_,_,_,_,_,_,⟨_,c1,_⟩,_⟩:=h1.next hx2;rw[hi] at c1;have e:i=i2:=by
  have e2:(i:Int)=(i2:Int):=by simpa using c1
  omega
 subst e;exact ⟨i+1,pl,h1.set.1 (i+1),h4,h3.1.tail hx,h3.2⟩
theorem QS.open {w:World}{rb o q:Nat}{all:List Tk}{ts:List Tk}(h:QS w rb all o q (.inr ts))(o':Nat)(ho:o'<=64) :
  QS (w.setCell ⟨rb,2,none⟩ (.int .i64 (o':Nat))) rb all o' q (.inr ts):=by
 obtain ⟨i,pl,h1,h2⟩:=h;exact ⟨i,pl,h1.set.2.1 (o':Nat),h2.1,h2.2.1,ho,h2.2.2.2⟩
theorem QS.quants {w:World}{rb o q:Nat}{all:List Tk}{ts:List Tk}(h:QS w rb all o q (.inr ts))(q':Nat)(hq:q'<=4) :
  QS (w.setCell ⟨rb,3,none⟩ (.int .i64 (q':Nat))) rb all o q' (.inr ts):=by
 obtain ⟨i,pl,h1,h2⟩:=h;exact ⟨i,pl,h1.set.2.2.1 (q':Nat),h2.1,h2.2.1,h2.2.2.1,hq⟩
theorem QS.down {w:World}{rb o q:Nat}{all:List Tk}{st:Sq}(h:QS w rb all (o+1) q st) :
  ∃o':Int,w.cell? ⟨rb,2,none⟩=some (.int .i64 o')/\(∀ j,w.frozen? ⟨rb,j,none⟩=false)/\QS (w.setCell ⟨rb,2,none⟩ (.int .i64 (wrap64 (o' - 1)))) rb all o q st:=by
 match st,h with
 | .inl (er,a),⟨i,o',q',h1,h2,h3⟩ =>
  obtain ⟨_,_,_,_,_,_,_,_,_,c2,_,_,_,hf⟩:=h1.next (List.getElem?_eq_getElem h2);exact ⟨o',c2,hf,i,_,q',h1.set.2.1 _,h2,h3⟩
 | .inr [],⟨i,pl,h1,h2,h3⟩=>exact absurd rfl h3.1.ne
 | .inr (x::r),⟨i,pl,h1,h2,h3⟩ =>
  obtain ⟨hx,_,hm⟩:=dropQ h2;obtain ⟨_,_,_,_,_,_,_,_,_,c2,_,_,_,hf⟩:=h1.next hx;refine ⟨_,c2,hf,i,pl,?_,h2,h3.1,by have:=h3.2.1;omega,h3.2.2⟩
  have e:wrap64 ((((o+1:Nat):Int)) - 1)=((o:Nat):Int):=by have:=h3.2.1;unfold wrap64;omega
  rw[e];exact h1.set.2.1 _
theorem QS.le {w:World}{rb o q:Nat}{all:List Tk}{ts:List Tk}(h:QS w rb all o q (.inr ts)):o<=64/\q<=4/\WFT ts:=by
 obtain ⟨i,pl,h1,h2,h3,h4⟩:=h;exact ⟨h4.1,h4.2,h3⟩
theorem isS_true {s:List UInt8}{st:Sq}(h:isS s st=true):∃x r,st=.inr (x::r)/\x.t=s:=by
 match st,h with
 | .inr (x::r),h=>exact ⟨x,r,rfl,by simpa [isS] using h⟩
theorem isS_false {s:List UInt8}{st:Sq}(h:isS s st=false){all:List Tk}{w:World}{rb o q:Nat}(hs:QS w rb all o q st):failS 120 st=onw (passT s) st/\∀ o2,failS 120 st=onw (enterT s o2) st:=by
 match st,h,hs with
 | .inl (er,a),h,hs=>exact ⟨rfl,fun _=>rfl⟩
 | .inr [],h,⟨i,pl,h1,h2,h3⟩=>exact absurd rfl h3.1.ne
 | .inr (x::r),h,hs =>
  have hx:¬x.t=s:=by simpa [isS] using h
  exact ⟨by simp[failS,onw,passT,hx,stp],fun _=>by simp[failS,onw,enterT,hx,stp]⟩
theorem take_s {w:World}{rb o q:Nat}{all:List Tk}{st:Sq}(TI:∀ x,x ∈ all->TokI x)(s:List UInt8)(hs:s≠[])(hn:nameB s=false)(h:QS w rb all o q st) :
  Calls Tryz.prog 178 #[.pointer (some ⟨rb,0,none⟩),stv s] w fun e w'=>e=.returned (.tuple #[])/\QS w' rb all o q (onw (passT s) st)/\Keep rb w w':=by
 have c:=is_s TI s hs hn h;cases hb:isS s st with
 | true =>
  obtain ⟨x,r,rfl,hx⟩:=isS_true hb;have e1:onw (passT s) (.inr (x::r))=.inr r:=by simp[onw,passT,hx,stp]
  rw[e1];rw[hb] at c;have hx2:x.t≠[]\/x.k≠0:=.inl (by rw[hx];exact hs)
  clear e1 hb hx;go_enter Tryz.func178,Tryz.ntmps178;go_wp2_with fail;refine c.mono ?_;rintro e w2 ⟨rfl,b⟩;have h2:=h.below b;obtain ⟨i,g,cap,L,hg,hi,hcL,hcap,hL,hm,c0,c1,c2,c3,c4,-,hf⟩:=h2.ok;have h3:=h2.over hx2 c1;have K:=(Keep.ofBelow (rb:=rb) b).trans (Keep.at w2 1 (.int .i64 ((i:Int)+1)));clear h2 h c b c0 c2 c3 c4;go_wp2
  go_end0
  exact ⟨rfl,h3,K⟩
 | false =>
  rw[<-(isS_false hb h).1];rw[hb] at c;have HF:∀ w2,QS w2 rb all o q st->Calls Tryz.prog 32 #[.pointer (some ⟨rb,0,none⟩),.int .i64 120] w2 fun r w'=>r=.returned (.tuple #[])/\QS w' rb all o q (failS 120 st)/\Keep rb w2 w':=fun w2 h2=>fail_s 120 (by decide) h2
  clear hb;go_enter Tryz.func178,Tryz.ntmps178;go_wp2_with fail;refine c.mono ?_;rintro e w2 ⟨rfl,b⟩;go_wp2_with fail;refine (HF w2 (h.below b)).mono ?_;rintro e w3 ⟨rfl,h3,k3⟩;have K:=(Keep.ofBelow (rb:=rb) b).trans k3;clear h c b HF;go_wp2
  (try simp only[Exit.inBlock,Exit.then])
  refine bodyPost_ret (results_none rfl _ _ _) rfl ?_;exact ⟨rfl,h3,K⟩
theorem open_no {w:World}{rb q:Nat}{all:List Tk}{x:Tk}{r:List Tk}(h:QS w rb all 64 q (.inr (x::r))) :
  Calls Tryz.prog 95 #[.pointer (some ⟨rb,0,none⟩)] w fun e w'=>e=.returned (.tuple #[])/\QS w' rb all 65 q (.inl (121,x.a))/\Keep rb w w':=by
 have c:Calls Tryz.prog 32 #[.pointer (some ⟨rb,0,none⟩),.int .i64 121] w fun r' w'=>r'=.returned (.tuple #[])/\QS w' rb all 65 q (.inl (121,x.a))/\Keep rb w w':=(fail_s 121 (by decide) h).mono fun e w' hh=>⟨hh.1,hh.2.1,hh.2.2⟩
 obtain ⟨i,g,cap,L,hg,hi,hcL,hcap,hL,hm,c0,c1,c2,c3,c4,-,hf⟩:=h.ok;clear h c0 c1 c3 c4;go_enter Tryz.func95,Tryz.ntmps95;go_wp2_with fail;refine c.mono ?_;rintro e w3 ⟨rfl,h3,k3⟩;clear c;go_wp2
 (try simp only[Exit.inBlock,Exit.then])
 refine bodyPost_ret (results_none rfl _ _ _) rfl ?_;exact ⟨rfl,h3,k3⟩
theorem open_ok {w:World}{rb o q:Nat}{all:List Tk}{x:Tk}{r:List Tk}(ho:o<64)(hx:x.t≠[])(h:QS w rb all o q (.inr (x::r))) :
  Calls Tryz.prog 95 #[.pointer (some ⟨rb,0,none⟩)] w fun e w'=>e=.returned (.tuple #[])/\QS w' rb all (o+1) q (.inr r)/\Keep rb w w':=by
 have h1:=h.open (o+1) (by omega)
 rw[show ((o+1:Nat):Int)=(o:Int)+1 by omega] at h1
 obtain ⟨i,g,cap,L,hg,hi,hcL,hcap,hL,hm,c0,c1,c2,c3,c4,-,hf⟩:=h.ok;obtain ⟨i2,g2,cap2,L2,hg2,hi2,hcL2,hcap2,hL2,hm2,d0,d1,d2,d3,d4,-,hf2⟩:=h1.ok;have h2:=h1.over (.inl hx) d1;have K:=(Keep.at (rb:=rb) w 2 (.int .i64 ((o:Int)+1))).trans (Keep.at _ 1 (.int .i64 ((i2:Int)+1)));have hb:((o:Int)==64)=false:=by simp;omega
 clear h h1 c0 c1 c3 c4 d0 d2 d3 d4;go_enter Tryz.func95,Tryz.ntmps95;go_upto_region 3 with fail;generalize w.setCell ⟨rb,2,none⟩ (.int .i64 ((o:Int)+1))=w3 at *;go_wp2
 go_end0
 exact ⟨rfl,h2,K⟩
theorem bracket_s {w:World}{rb o q:Nat}{all:List Tk}{st:Sq}(TI:∀ x,x ∈ all->TokI x)(s:List UInt8)(hs:s≠[])(hn:nameB s=false)(h:QS w rb all o q st) :
  Calls Tryz.prog 135 #[.pointer (some ⟨rb,0,none⟩),stv s] w fun e w'=>e=.returned (.tuple #[])/\QS w' rb all (o+1) q (onw (enterT s o) st)/\Keep rb w w':=by
 have c:=is_s TI s hs hn h;cases hb:isS s st with
 | true =>
  obtain ⟨x,r,rfl,hx⟩:=isS_true hb;rw[hb] at c;have HF:∀ w2,QS w2 rb all o q (.inr (x::r))->Calls Tryz.prog 95 #[.pointer (some ⟨rb,0,none⟩)] w2 fun e w'=>e=.returned (.tuple #[])/\QS w' rb all (o+1) q (onw (enterT s o) (.inr (x::r)))/\Keep rb w2 w':=fun w2 h2=>by
   by_cases h64:o=64
   ·subst h64;have e1:onw (enterT s 64) (.inr (x::r))=.inl (121,x.a):=by simp[onw,enterT,hx,stp]
    rw[e1];exact open_no h2
   ·have e1:onw (enterT s o) (.inr (x::r))=.inr r:=by simp[onw,enterT,hx,stp,h64]
    rw[e1];exact open_ok (by have:=h2.le.1;omega) (by rw[hx];exact hs) h2
  clear hb hx;generalize onw (enterT s o) (.inr (x::r))=st2 at *;go_enter Tryz.func135,Tryz.ntmps135;go_wp2_with fail;refine c.mono ?_;rintro e w2 ⟨rfl,b⟩;go_wp2_with fail;refine (HF w2 (h.below b)).mono ?_;rintro e w3 ⟨rfl,h3,k3⟩;have K:=(Keep.ofBelow (rb:=rb) b).trans k3;clear h c b HF;go_wp2
  go_end0
  exact ⟨rfl,h3,K⟩
 | false =>
  rw[<-(isS_false hb h).2 o];rw[hb] at c;have HF:∀ w2,QS w2 rb all o q st->Calls Tryz.prog 32 #[.pointer (some ⟨rb,0,none⟩),.int .i64 120] w2 fun r w'=>r=.returned (.tuple #[])/\QS w' rb all (o+1) q (failS 120 st)/\Keep rb w2 w':=fun w2 h2=>(fail_s 120 (by decide) h2).mono fun e w' hh=>⟨hh.1,by
   obtain ⟨er,a,e1⟩:∃er a,failS 120 st=.inl (er,a):=by
    match st with
    | .inl (er,a)=>exact ⟨er,a,rfl⟩
    | .inr []=>exact ⟨0,0,rfl⟩
    | .inr (x::r)=>exact ⟨120,x.a,rfl⟩
   have h3:=hh.2.1;rw[e1] at h3 ⊢;exact h3,hh.2.2⟩
  clear hb;go_enter Tryz.func135,Tryz.ntmps135;go_wp2_with fail;refine c.mono ?_;rintro e w2 ⟨rfl,b⟩;go_wp2_with fail;refine (HF w2 (h.below b)).mono ?_;rintro e w3 ⟨rfl,h3,k3⟩;have K:=(Keep.ofBelow (rb:=rb) b).trans k3;clear h c b HF;go_wp2
  (try simp only[Exit.inBlock,Exit.then])
  refine bodyPost_ret (results_none rfl _ _ _) rfl ?_;exact ⟨rfl,h3,K⟩
theorem close_s {w:World}{rb o q:Nat}{all:List Tk}{st:Sq}(TI:∀ x,x ∈ all->TokI x)(s:List UInt8)(hs:s≠[])(hn:nameB s=false)(h:QS w rb all (o+1) q st) :
  Calls Tryz.prog 136 #[.pointer (some ⟨rb,0,none⟩),stv s] w fun e w'=>e=.returned (.tuple #[])/\QS w' rb all o q (onw (passT s) st)/\Keep rb w w':=by
 have c:=take_s TI s hs hn h;generalize onw (passT s) st=st2 at *;go_enter Tryz.func136,Tryz.ntmps136;go_wp2_with fail;refine c.mono ?_;rintro e w2 ⟨rfl,h2,k2⟩;obtain ⟨o',c2,hf,h3⟩:=h2.down;have K:=k2.trans (Keep.at w2 2 (.int .i64 (wrap64 (o' - 1))));clear h c k2 h2;go_wp2
 go_end0
 exact ⟨rfl,h3,K⟩
def amgI (L:List (List UInt8))(st:Sq):Int :=
 match L.findIdx? (fun s=>isS s st) with
 | some i=>(i:Nat)
 | none=>-1
theorem amg_yes {L:List (List UInt8)}{st:Sq}{k:Nat}{s:List UInt8}(hk:L[k]?=some s)(hs:isS s st=true)(hn:∀ j t,j<k->L[j]?=some t->isS t st=false):amgI L st=(k:Nat):=by
 have:L.findIdx? (fun s=>isS s st)=some k:=by
  obtain ⟨hl,he⟩:=List.getElem?_eq_some_iff.1 hk;rw[List.findIdx?_eq_some_iff_getElem];refine ⟨hl,by rw[he];exact hs,fun j hj=>?_⟩
  have:=hn j (L[j]'(by omega)) hj (List.getElem?_eq_getElem _)
  simp[this]
 unfold amgI;rw[this]
theorem amg_no {L:List (List UInt8)}{st:Sq}(hn:∀ j t,j<L.length->L[j]?=some t->isS t st=false):amgI L st=-1:=by
 have:L.findIdx? (fun s=>isS s st)=none:=by
  rw[List.findIdx?_eq_none_iff];intro t ht;obtain ⟨j,hj,he⟩:=List.getElem_of_mem ht;exact hn j t hj (by rw[<-he];exact List.getElem?_eq_getElem _)
 unfold amgI;rw[this]
theorem among_s {w:World}{rb o q:Nat}{all:List Tk}{st:Sq}(TI:∀ x,x ∈ all->TokI x)(L:List (List UInt8))(hL:∀ s,s ∈ L->s≠[]/\nameB s=false)(h:QS w rb all o q st){g n cap:Nat}(hn:n=L.length)(hg:g<w.heap.size)(hl:∀ j s,L[j]?=some s->w.cell? ⟨g,j,none⟩=some (stv s))(hc:n<=cap)(hm:cap<=maxLen) :
  Calls Tryz.prog 60 #[.pointer (some ⟨rb,0,none⟩),.slice (some ⟨g,0,none⟩) n cap] w fun e w'=>e=.returned (.int .i64 (amgI L st))/\Below w.heap.size w w':=by
 have hmm:cap<=9223372036854775807:=hm;obtain ⟨V,hV⟩:∃V,V=amgI L st:=⟨_,rfl⟩;rw[<-hV];have HV:Hid (V=amgI L st):=hV;have HN:Hid (n=L.length):=hn;have HL:Hid (∀ j s wx,L[j]?=some s->Below w.heap.size w wx->wx.cell? ⟨g,j,none⟩=some (stv s)):=fun j s wx hj b=>(b.cell (p:=⟨g,j,none⟩) hg).trans (hl j s hj)
 have HI:Hid (∀ s wx,s ∈ L->Below w.heap.size w wx->Calls Tryz.prog 94 #[.pointer (some ⟨rb,0,none⟩),stv s] wx fun e w'=>e=.returned (.bool (isS s st))/\Below wx.heap.size wx w'):=fun s wx hs b=>is_s TI s (hL s hs).1 (hL s hs).2 (h.below b)
 clear hV hn hl h hL TI hm;go_enter Tryz.func60,Tryz.ntmps60;go_wp2_with fail
 go_loopw [5] (fun v wr=>∃k:Nat,v=.int .i64 (k:Nat)/\k<=n/\(∀ j t,j<k->L[j]?=some t->isS t st=false)/\Below w.heap.size w wr) (fun v _=>n - (intOf v).toNat)
 case atStart=>exact ⟨0,by go_num,by omega,fun j t hj=>by omega,Below.refl _ w⟩
 case round =>
  obtain ⟨k,rfl,hk,hin,hB⟩:=hrel;by_cases hlt:k<n
  ·have hkI:(k:Int)<(n:Int):=by omega
   obtain ⟨s,hs⟩:∃s,L[k]?=some s:=⟨_,List.getElem?_eq_getElem (by rw[<-HN.out];exact hlt)⟩
   have ix:=HL.out k s wr hs hB;have c:=HI.out s wr (List.mem_of_getElem? hs) hB;have hk9:k<9223372036854775807:=by omega
   cases hb:isS s st with
   | true =>
    rw[hb] at c;have fin:Hid (V=(k:Nat)):=by show V=_;rw[HV.out];exact amg_yes hs hb hin
    clear hin HI HL HV hs hb;go_wp2_with fail;refine c.mono ?_;rintro e w2 ⟨rfl,b2⟩;have B2:=hB.trans (b2.mono hB.size);clear c ix;go_wp2;go_ret;exact ⟨by rw[fin.out];rfl,B2⟩
   | false =>
    rw[hb] at c;have hin2:∀ j t,j<k+1->L[j]?=some t->isS t st=false:=fun j t hj ht=>by
     by_cases e:j=k
     ·subst e;rw[hs] at ht;cases ht;exact hb
     ·exact hin j t (by omega) ht
    have HI2:=Lib.hid hin2;clear hin HI HL HV hs hb hin2;go_wp2_with fail;refine c.mono ?_;rintro e w2 ⟨rfl,b2⟩;have B2:=hB.trans (b2.mono hB.size);clear c ix hB b2;go_wp2
    go_roundw
    case rel=>(try ((repeat apply Exists.intro);refine ⟨?_,rfl⟩));exact ⟨k+1,by go_num,by omega,HI2.out,B2⟩
    case measure=>simp[intOf];omega
  ·obtain rfl:k=n:=by omega
   have fin:Hid (V=-1):=by show V=_;rw[HV.out];exact amg_no (by rw[<-HN.out];exact hin)
   clear hin HI HL HV HN;go_wp2;go_ret;exact ⟨by rw[fin.out];rfl,hB⟩
abbrev Nb (n bl:Nat):Nat->Prop:=fun b=>n<=b/\b≠bl
theorem Sl.toB {n n1 bl:Nat}{w:World}{f:Fs}{ao:Option Addr}(h:Sl w (Nw n1) f ao)(hn:n<=n1)(hb:bl<n1):Sl w (Nb n bl) f ao:=h.mono (fun _ _ _=>rfl) (Nat.le_refl _) (fun k hk _=>⟨Nat.le_trans hn hk,by have hk:n1<=k:=hk;omega⟩)
theorem Sl.toB' {n bl:Nat}{w:World}{f:Fs}{ao:Option Addr}(h:Sl w (Nw n) f ao)(hb:w.heap.size<=bl):Sl w (Nb n bl) f ao:=h.mono (fun _ _ _=>rfl) (Nat.le_refl _) (fun k hk hl=>⟨hk,by omega⟩)
theorem Sl.keepB {rb n bl:Nat}{w w':World}{f:Fs}{ao:Option Addr}(h:Sl w (Nb n bl) f ao)(k:Keep rb w w')(hn:rb<n):Sl w' (Nb n bl) f ao:=h.mono (fun i hp hl=>k.block i hl (by have:=hp.1;omega)) k.size (fun _ h _=>h)
theorem Sl.allocB {P:Nat->Prop}{w:World}{f:Fs}{ao:Option Addr}(h:Sl w P f ao)(ob:Obj):Sl (w.alloc ob) P f ao:=h.mono (fun i hp hl=>Below.heap_alloc w ob i hl) (by simp) (fun _ h _=>h)
theorem Sl.setB {n bl:Nat}{w:World}{f:Fs}{ao:Option Addr}(h:Sl w (Nb n bl) f ao)(p:Addr)(v:Value)(hp:p.block=bl\/p.block<n):Sl (w.setCell p v) (Nb n bl) f ao:=h.mono (fun i hi hl=>heap_setCell_other w p i v (by have h1:=hi.1;have h2:=hi.2;rcases hp with hp|hp <;> omega)) (by simp) (fun _ h _=>h)
theorem Sl.set5B {n bl:Nat}{w:World}{f:Fs}{ao:Option Addr}(h:Sl w (Nb n bl) f ao){b:Nat}(hb:b=bl\/b<n)(b0 b1 b2 b3 b4:Value):Sl (((((w.setCell ⟨b,0,none⟩ b0).setCell ⟨b,1,none⟩ b1).setCell ⟨b,2,none⟩ b2).setCell ⟨b,3,none⟩ b3).setCell ⟨b,4,none⟩ b4) (Nb n bl) f ao:=((((h.setB ⟨b,0,none⟩ b0 hb).setB ⟨b,1,none⟩ b1 hb).setB ⟨b,2,none⟩ b2 hb).setB ⟨b,3,none⟩ b3 hb).setB ⟨b,4,none⟩ b4 hb
theorem Sl.lowB {n bl m:Nat}{w:World}{f:Fs}{ao:Option Addr}(h:Sl w (Nb n bl) f ao)(hm:m<=n):Sl w (Nw m) f ao:=h.mono (fun _ _ _=>rfl) (Nat.le_refl _) (fun k hk _=>Nat.le_trans hm hk.1)
def cwL:List (List UInt8):=callsL.map (·.1)
def qwL:List (List UInt8):=quantsL.map (·.1)
def Wl (w:World)(L:List (List UInt8))(w':World)(g:Nat):Prop:=Below w.heap.size w w'/\w.heap.size<=g/\g<w'.heap.size/\∀ j s,L[j]?=some s->w'.cell? ⟨g,j,none⟩=some (stv s)
theorem wl_new (w:World)(L:List (List UInt8))(t:TypeId):Wl w L (w.alloc (.cells (L.map stv).toArray t)) w.heap.size:=by
 refine ⟨(Below.refl _ w).alloc (Nat.le_refl _) _,Nat.le_refl _,by simp,fun j s hj=>?_⟩
 have hh:(w.alloc (.cells (L.map stv).toArray t)).heap[w.heap.size]?=some (.cells (L.map stv).toArray t (0,0)):=heap_alloc_new w _;rw[cell_of_row _ _ _ _ _ (0,0) hh];simp[hj]
theorem calls_s (w:World):Calls Tryz.prog 133 #[] w fun e w'=>∃g,e=.returned (.slice (some ⟨g,0,none⟩) 10 10)/\Wl w cwL w' g:=by
 have H:=wl_new w cwL 9;have e1:(cwL.map stv)=callsL.map (fun x=>stv x.1):=rfl
 go_enter Tryz.func133,Tryz.ntmps133;go_wp2;go_ret;exact ⟨_,rfl,H⟩
theorem quants_s (w:World):Calls Tryz.prog 134 #[] w fun e w'=>∃g,e=.returned (.slice (some ⟨g,0,none⟩) 6 6)/\Wl w qwL w' g:=by
 have H:=wl_new w qwL 9;go_enter Tryz.func134,Tryz.ntmps134;go_wp2;go_ret;exact ⟨_,rfl,H⟩
abbrev bxE (e:Ex)(ao:Option Addr)(cap:Nat):Obj:=.cells #[.int .i64 e.k,.int .i64 e.n,stv e.nm,.slice ao e.kids.len cap,.int .i64 e.a] 25
theorem Fc.allocP {P:Nat->Prop}{w:World}{f:Fs}{xs:List Value}(h:Fc w P f xs)(ob:Obj):Fc (w.alloc ob) P f xs:=h.mono (fun i hp hl=>Below.heap_alloc w ob i hl) (by simp) (fun _ h _=>h)
theorem Sl.freshP {w:World}{P:Nat->Prop}{f:Fs}(xs:List Value)(t:TypeId)(h:Fc w P f xs)(hp:P w.heap.size):Sl (w.alloc (.cells xs.toArray t)) P f (some ⟨w.heap.size,0,none⟩):=by
 refine Sl.of hp (by simp) (fun j u hu=>?_) (h.allocP _)
 rw[Nat.zero_add];rw[cell_of_row _ w.heap.size j _ t (0,0) (heap_alloc_new w _)];simpa using hu
theorem two_s {w:World}{P:Nat->Prop}(k:Nat)(at0:Int){a b:Ex}{aoa aob:Option Addr}{ca cb:Nat}(ha:Sl w P a.kids aoa)(hb:Sl w P b.kids aob)(hn:P (w.heap.size+1+1+1)) :
  Calls Tryz.prog 61 #[.int .i64 (k:Nat),.int .i64 at0,exV a aoa ca,exV b aob cb] w fun e w'=>∃ao cap,e=.returned (exV ⟨(k:Nat),0,[],at0,(one a).snoc b⟩ ao cap)/\Sl w' P ((one a).snoc b) ao/\Below w.heap.size w w':=by
 have s1:(w.alloc (bxE a aoa ca)).heap.size=w.heap.size+1:=by simp
 have s2:((w.alloc (bxE a aoa ca)).alloc (bxE b aob cb)).heap.size=w.heap.size+1+1:=by simp
 have s3:(((w.alloc (bxE a aoa ca)).alloc (bxE b aob cb)).alloc (bxE ⟨(k:Nat),0,[],at0,(one a).snoc b⟩ (some ⟨w.heap.size+1+1+1,0,none⟩) 2)).heap.size=w.heap.size+1+1+1:=by simp
 have hS:=Sl.freshP _ 25 (Fc.app (Fc.one (e:=a) ca (((ha.allocB (bxE a aoa ca)).allocB (bxE b aob cb)).allocB (bxE ⟨(k:Nat),0,[],at0,(one a).snoc b⟩ (some ⟨w.heap.size+1+1+1,0,none⟩) 2))) (Fc.one (e:=b) cb (((hb.allocB (bxE a aoa ca)).allocB (bxE b aob cb)).allocB (bxE ⟨(k:Nat),0,[],at0,(one a).snoc b⟩ (some ⟨w.heap.size+1+1+1,0,none⟩) 2)))) (by rw[s3];exact hn)
 have hZ:(((w.alloc (bxE a aoa ca)).alloc (bxE b aob cb)).alloc (bxE ⟨(k:Nat),0,[],at0,(one a).snoc b⟩ (some ⟨w.heap.size+1+1+1,0,none⟩) 2)).heap[w.heap.size+1+1]?=some (bxE ⟨(k:Nat),0,[],at0,(one a).snoc b⟩ (some ⟨w.heap.size+1+1+1,0,none⟩) 2):=by
  have:=heap_alloc_new ((w.alloc (bxE a aoa ca)).alloc (bxE b aob cb)) (bxE ⟨(k:Nat),0,[],at0,(one a).snoc b⟩ (some ⟨w.heap.size+1+1+1,0,none⟩) 2)
  rw[s2] at this;exact this
 have hZ2:=(Below.heap_alloc _ (.cells ([.int .i64 a.k,.int .i64 a.n,stv a.nm,.slice aoa a.kids.len ca,.int .i64 a.a]++[.int .i64 b.k,.int .i64 b.n,stv b.nm,.slice aob b.kids.len cb,.int .i64 b.a]).toArray 25) _ (lt_of_block hZ)).trans hZ;have hB:Below w.heap.size w ((((w.alloc (bxE a aoa ca)).alloc (bxE b aob cb)).alloc (bxE ⟨(k:Nat),0,[],at0,(one a).snoc b⟩ (some ⟨w.heap.size+1+1+1,0,none⟩) 2)).alloc (.cells ([.int .i64 a.k,.int .i64 a.n,stv a.nm,.slice aoa a.kids.len ca,.int .i64 a.a]++[.int .i64 b.k,.int .i64 b.n,stv b.nm,.slice aob b.kids.len cb,.int .i64 b.a]).toArray 25)):=((((Below.refl _ w).alloc (by omega) _).alloc (by omega) _).alloc (by omega) _).alloc (by omega) _
 rw[s3] at hS;have l2:((one a).snoc b).len=2:=rfl;obtain ⟨u0,u1,u2,u3,u4,-⟩:=box5 hZ2;have FIN:Hid (∀ wx,wx=((((w.alloc (bxE a aoa ca)).alloc (bxE b aob cb)).alloc (bxE ⟨(k:Nat),0,[],at0,(one a).snoc b⟩ (some ⟨w.heap.size+1+1+1,0,none⟩) 2)).alloc (.cells ([.int .i64 a.k,.int .i64 a.n,stv a.nm,.slice aoa a.kids.len ca,.int .i64 a.a]++[.int .i64 b.k,.int .i64 b.n,stv b.nm,.slice aob b.kids.len cb,.int .i64 b.a]).toArray 25))->Sl wx P ((one a).snoc b) (some ⟨w.heap.size+1+1+1,0,none⟩)/\Below w.heap.size w wx/\wx.cell? ⟨w.heap.size+1+1,0,none⟩=some (.int .i64 (k:Nat))/\wx.cell? ⟨w.heap.size+1+1,1,none⟩=some (.int .i64 0)/\wx.cell? ⟨w.heap.size+1+1,2,none⟩=some (stv [])/\wx.cell? ⟨w.heap.size+1+1,3,none⟩=some (.slice (some ⟨w.heap.size+1+1+1,0,none⟩) 2 2)/\wx.cell? ⟨w.heap.size+1+1,4,none⟩=some (.int .i64 at0)):=fun wx e=>by
  subst e;exact ⟨hS,hB,u0,u1,u2,u3,u4⟩
 clear hS hB hZ hZ2 u0 u1 u2 u3 u4 s1 s2 s3 l2 ha hb;unfold exV;go_enter Tryz.func61,Tryz.ntmps61;go_wp2;obtain ⟨f1,f2,u0,u1,u2,u3,u4⟩:=FIN.out _ rfl;exact bodyPost_ret (v:=exV ⟨(k:Nat),0,[],at0,(one a).snoc b⟩ (some ⟨w.heap.size+1+1+1,0,none⟩) 2) (by simp[results,Tryz.results61,go_sem,exV];rfl) rfl ⟨_,_,rfl,f1,f2⟩
def sgW:Nat->List (List UInt8)
 | 1=>[[111,114]]
 | 2=>[[97,110,100]]
 | 4=>[[61],[33,61],[60,61],[60]]
 | 5=>[[43],[45]]
 | _=>[[42],[47],[37]]
def sgK:Nat->List Nat
 | 1=>[18]
 | 2=>[17]
 | 4=>[13,14,16,15]
 | 5=>[8,9]
 | _=>[10,11,12]
def Sg (w:World)(row:Nat)(w':World)(g1 g2:Nat):Prop:=Wl w (sgW row) w' g1/\w.heap.size<=g2/\g2<w'.heap.size/\∀ j k,(sgK row)[j]?=some k->w'.cell? ⟨g2,j,none⟩=some (.int .i64 (k:Nat))
theorem sg_12 (w:World)(row:Nat)(t1 t2:TypeId):Sg w row ((w.alloc (.cells ((sgW row).map stv).toArray t1)).alloc (.cells ((sgK row).map (fun k=>Value.int .i64 (k:Nat))).toArray t2)) w.heap.size (w.heap.size+1):=by
 obtain ⟨h1,h2,h3,h4⟩:=wl_new w (sgW row) t1;have hs:(w.alloc (.cells ((sgW row).map stv).toArray t1)).heap.size=w.heap.size+1:=by simp
 refine ⟨⟨h1.alloc (by omega) _,h2,by simp;omega,fun j s hj=>?_⟩,by omega,by simp,fun j k hj=>?_⟩
 ·exact (World.cell?_of_block (a:=⟨w.heap.size,j,none⟩) (Below.heap_alloc _ _ _ h3)).trans (h4 j s hj)
 ·have hh:=heap_alloc_new (w.alloc (.cells ((sgW row).map stv).toArray t1)) (.cells ((sgK row).map (fun k=>Value.int .i64 (k:Nat))).toArray t2)
  rw[hs] at hh;rw[cell_of_row _ _ _ _ _ (0,0) hh];simp[hj]
theorem sg_21 (w:World)(row:Nat)(t1 t2:TypeId):Sg w row ((w.alloc (.cells ((sgK row).map (fun k=>Value.int .i64 (k:Nat))).toArray t2)).alloc (.cells ((sgW row).map stv).toArray t1)) (w.heap.size+1) w.heap.size:=by
 have hs:(w.alloc (.cells ((sgK row).map (fun k=>Value.int .i64 (k:Nat))).toArray t2)).heap.size=w.heap.size+1:=by simp
 obtain ⟨h1,h2,h3,h4⟩:=wl_new (w.alloc (.cells ((sgK row).map (fun k=>Value.int .i64 (k:Nat))).toArray t2)) (sgW row) t1
 rw[hs] at h2 h3 h4;have b1:Below w.heap.size w (w.alloc (.cells ((sgK row).map (fun k=>Value.int .i64 (k:Nat))).toArray t2)):=(Below.refl _ w).alloc (Nat.le_refl _) _
 refine ⟨⟨b1.trans (h1.mono (by omega)),by omega,h3,h4⟩,by omega,by omega,fun j k hj=>?_⟩
 have hh:=heap_alloc_new w (.cells ((sgK row).map (fun k=>Value.int .i64 (k:Nat))).toArray t2)
 have hh2:=(Below.heap_alloc (w.alloc (.cells ((sgK row).map (fun k=>Value.int .i64 (k:Nat))).toArray t2)) (.cells ((sgW row).map stv).toArray t1) _ (lt_of_block hh)).trans hh
 rw[cell_of_row _ _ _ _ _ (0,0) hh2];simp[hj]
theorem signs_s (w:World)(row n:Nat)(hr:row=1\/row=2\/row=4\/row=5\/row=6)(hn:n=(sgW row).length) :
  Calls Tryz.prog 59 #[.int .i64 (row:Nat)] w fun e w'=>∃g1 g2,e=.returned (.tuple #[.slice (some ⟨g1,0,none⟩) n n,.slice (some ⟨g2,0,none⟩) n n])/\Sg w row w' g1 g2:=by
 have H1:=Lib.hid (fun w2:World=>sg_12 w2 row 9 3)
 have H2:=Lib.hid (fun w2:World=>sg_21 w2 row 9 3)
 rcases hr with rfl|rfl|rfl|rfl|rfl
 all_goals
  subst hn;go_enter Tryz.func59,Tryz.ntmps59;go_wp2;go_ret2;exact ⟨_,_,rfl,H1.out w⟩
theorem digit_of (k:Nat)(hk:k<10):((UInt8.ofNat (48+k)).toNat:Int)=48+(k:Int):=by
 rw[UInt8.toNat_ofNat'];omega
theorem text_dig (w:World)(b k:Nat)(hk:k<10)(hb:w.heap[b]?=some (.cells #[.int .u8 (48+(k:Int))] 5 (0,0))) :
  (convert 116 9 (.slice (some ⟨b,0,none⟩) 1 1)).run Tryz.prog w=.ok (.string ⟨#[UInt8.ofNat (48+k)]⟩) w :=
 run_convert_bytes_back _ 116 9 5 ⟨b,0,none⟩ 1 [UInt8.ofNat (48+k)] Tryz.underlying116 Tryz.underlying5 Tryz.underlying9
  (fun j hj=>by
   have e:j=0:=by simp at hj;omega
   subst e
   have:=digit_of k hk
   simp only[List.getElem_cons_zero];rw[this]
   show w.cell? ⟨b,0+0,none⟩=_
   rw[cell_of_row w b _ _ _ (0,0) hb];rfl)
theorem cat_dig (l:List UInt8)(c:UInt8):(⟨l.toArray⟩:ByteArray)++⟨#[c]⟩=⟨(l++[c]).toArray⟩:=by
 apply ByteArray.ext
 simp
def DigOk (n:Nat):Prop:=∀ w:World,Calls Tryz.prog 209 #[.int .i64 (n:Nat)] w fun e w'=>e=.returned (stv (Go.Lib.decDigits n))/\Below w.heap.size w w'
theorem dig_small (n:Nat)(h:n<10):DigOk n:=by
 intro w;rw[Go.Lib.decDigits,dif_pos h];have B0:Below w.heap.size w (w.alloc (.cells #[.int .u8 (48+(n:Int))] 5)):=(Below.refl _ w).alloc (Nat.le_refl _) _;have F0:=text_dig (w.alloc (.cells #[.int .u8 (48+(n:Int))] 5)) w.heap.size n h (heap_alloc_new w _);obtain ⟨c,hc⟩:∃c,c=UInt8.ofNat (48+n):=⟨_,rfl⟩;rw[<-hc] at F0 ⊢;clear hc;have hI:(n:Int)<10:=by omega
 have hw:IntKind.u8.wrap (48+(n:Int))=48+(n:Int):=by show (48+(n:Int)) % 256=_;omega
 go_enter Tryz.func209,Tryz.ntmps209;go_wp2;go_ret;exact ⟨rfl,B0⟩
theorem dig_big (n:Nat)(h:¬n<10)(hn:n<=9223372036854775807)(IH:DigOk (n / 10)):DigOk n:=by
 intro w;rw[Go.Lib.decDigits,dif_neg h];have hm:n % 10<10:=Nat.mod_lt _ (by omega)
 have HT:Hid (∀ (wx:World) (b:Nat),wx.heap[b]?=some (.cells #[.int .u8 (48+((n % 10:Nat):Int))] 5 (0,0))->(convert 116 9 (.slice (some ⟨b,0,none⟩) 1 1)).run Tryz.prog wx=.ok (.string ⟨#[UInt8.ofNat (48+n % 10)]⟩) wx):=fun wx b hb=>text_dig wx b (n % 10) hm hb
 have IH:=fun wx=>IH wx
 have e1:IntKind.i64.wrap (Int.tdiv (n:Int) 10)=((n / 10:Nat):Int):=by rw[IntKind.wrap_i64,show Int.tdiv (n:Int) 10=((n / 10:Nat):Int) from rfl];omega
 have e2:IntKind.i64.wrap (Int.tmod (n:Int) 10)=((n % 10:Nat):Int):=by rw[IntKind.wrap_i64,show Int.tmod (n:Int) 10=((n % 10:Nat):Int) from rfl];omega
 have e3:Int.tdiv (n:Int) 10=((n / 10:Nat):Int):=rfl;have e4:Int.tmod (n:Int) 10=((n % 10:Nat):Int):=rfl;obtain ⟨q,hq⟩:∃q,q=n / 10:=⟨_,rfl⟩;obtain ⟨r,hr⟩:∃r,r=n % 10:=⟨_,rfl⟩;rw[<-hq] at IH e1 e3 ⊢;rw[<-hr] at HT e2 e4 hm ⊢;obtain ⟨c,hc⟩:∃c,c=UInt8.ofNat (48+r):=⟨_,rfl⟩;rw[<-hc] at HT ⊢;obtain ⟨L,hL⟩:∃L,L=Go.Lib.decDigits q:=⟨_,rfl⟩;have hl9:L.length<=21:=by
  have h9:=Go.Lib.itoa_length_le (q:Nat) (by omega) (by omega)
  unfold Go.Lib.itoa at h9;rw[if_neg (by omega),Int.toNat_natCast,<-hL] at h9
  exact h9
 have hsm:=size_mk L;rw[<-hL] at IH ⊢;have HN:Hid (n<=9223372036854775807):=hn;have hq1:IntKind.i64.wrap (q:Int)=(q:Int):=by rw[IntKind.wrap_i64];omega
 have hr1:IntKind.i64.wrap (48+(r:Int))=48+(r:Int):=by rw[IntKind.wrap_i64];omega
 clear hq hr hc hL e1 e2;have hI:¬(n:Int)<10:=by omega
 have hw:IntKind.u8.wrap (48+(r:Int))=48+(r:Int):=by show (48+(r:Int)) % 256=_;omega
 have F1:=HT.out ((w.alloc (.cells #[.int .u8 (48+(r:Int))] 5)).drew) w.heap.size (heap_alloc_new w _);have B0:Below w.heap.size w (w.alloc (.cells #[.int .u8 (48+(r:Int))] 5)).drew:=((Below.refl _ w).alloc (Nat.le_refl _) _).drew;have hs0:w.heap.size<(w.alloc (.cells #[.int .u8 (48+(r:Int))] 5)).drew.heap.size:=by show w.heap.size<(w.alloc _).heap.size;simp
 have hbl:((w.alloc (.cells #[.int .u8 (48+(r:Int))] 5)).drew).heap[w.heap.size]?=some (.cells #[.int .u8 (48+(r:Int))] 5 (0,0)):=heap_alloc_new w _;have Hbl:=Lib.hid hbl;clear hbl;have HC:Hid (((⟨L.toArray⟩:ByteArray)++⟨#[c]⟩)=⟨(L++[c]).toArray⟩):=cat_dig L c;go_enter Tryz.func209,Tryz.ntmps209;go_upto_region 3 with fail
 go_region_with ((first|(go_at_call 209;refine (IH w.drew).mono ?_;rintro e w1 ⟨rfl,b1⟩;have B1:Below w.heap.size w w1:=(Below.refl _ w).drew.trans b1;have B2:Below w.heap.size w (w1.alloc (.cells #[.int .u8 (48+(r:Int))] 5)):=B1.alloc B1.size _;have F2:=HT.out (w1.alloc (.cells #[.int .u8 (48+(r:Int))] 5)) w1.heap.size (heap_alloc_new w1 _))|(go_at_call 209;refine (IH ((w.alloc (.cells #[.int .u8 (48+(r:Int))] 5)).drew)).mono ?_;rintro e w1 ⟨rfl,b1⟩;have B2:Below w.heap.size w w1:=B0.trans (b1.mono B0.size);have F2:=HT.out w1 w.heap.size ((b1.block _ hs0).trans Hbl.out))))
 all_goals
  rw[HC.out];go_wp2;go_ret;exact ⟨rfl,B2⟩
theorem dig_all:∀ (m n:Nat),n<=m->n<=9223372036854775807->DigOk n
 | 0,n,hm,hn=>dig_small n (by omega)
 | m+1,n,hm,hn=>by
  by_cases h:n<10
  ·exact dig_small n h
  ·exact dig_big n h hn (dig_all m (n / 10) (by omega) (by omega))
theorem digits_q (n:Int)(h0:0<=n)(h1:n<=9223372036854775807)(w:World):Calls Tryz.prog 209 #[.int .i64 n] w fun e w'=>e=.returned (stv (Go.Lib.itoa n))/\Below w.heap.size w w':=by
 have h:=dig_all n.toNat n.toNat (Nat.le_refl _) (by omega) w
 rw[show ((n.toNat:Nat):Int)=n by omega] at h
 have e:Go.Lib.itoa n=Go.Lib.decDigits n.toNat:=by unfold Go.Lib.itoa;rw[if_neg (by omega)]
 rw[e];exact h
theorem sign_at (x:List UInt8 × Nat × Nat × Nat × Nat)(hx:x ∈ opsL):(x.2.2.1=1\/x.2.2.1=2\/x.2.2.1=4\/x.2.2.1=5\/x.2.2.1=6)/\∃i,i<4/\(sgW x.2.2.1)[i]?=some x.1/\(sgK x.2.2.1)[i]?=some x.2.1/\(∀ j,j<i->(sgK x.2.2.1)[j]?≠some x.2.1)/\∀ r,r<x.2.2.1->r≠3->r≠0->∀ j,j<4->(sgK r)[j]?≠some x.2.1:=by
 simp only[opsL,List.mem_cons,List.not_mem_nil,or_false] at hx;rcases hx with rfl|rfl|rfl|rfl|rfl|rfl|rfl|rfl|rfl|rfl|rfl
 ·exact ⟨by decide,0,by decide,rfl,rfl,by decide,by decide⟩
 ·exact ⟨by decide,0,by decide,rfl,rfl,by decide,by decide⟩
 ·exact ⟨by decide,0,by decide,rfl,rfl,by decide,by decide⟩
 ·exact ⟨by decide,1,by decide,rfl,rfl,by decide,by decide⟩
 ·exact ⟨by decide,3,by decide,rfl,rfl,by decide,by decide⟩
 ·exact ⟨by decide,2,by decide,rfl,rfl,by decide,by decide⟩
 ·exact ⟨by decide,0,by decide,rfl,rfl,by decide,by decide⟩
 ·exact ⟨by decide,1,by decide,rfl,rfl,by decide,by decide⟩
 ·exact ⟨by decide,0,by decide,rfl,rfl,by decide,by decide⟩
 ·exact ⟨by decide,1,by decide,rfl,rfl,by decide,by decide⟩
 ·exact ⟨by decide,2,by decide,rfl,rfl,by decide,by decide⟩
theorem sg_len (r:Nat):(sgK r).length=(sgW r).length/\(sgW r).length<=4:=by
 unfold sgK sgW
 split <;> exact ⟨rfl,by decide⟩
theorem sign_q {k:Int}{x:List UInt8 × Nat × Nat × Nat × Nat}(h:opOf k=some x)(w:World):Calls Tryz.prog 213 #[.int .i64 k] w fun e w'=>e=.returned (stv x.1)/\Below w.heap.size w w':=by
 have hm:=List.mem_of_find?_eq_some h;have hk:((x.2.1:Nat):Int)=k:=by have:=List.find?_some h;simpa using this
 obtain ⟨hr,ix,hix,hw,hkk,hj,hrow⟩:=sign_at x hm;obtain ⟨x1,x2,r,x4,x5⟩:=x;simp only at hk hr hw hkk hj hrow ⊢;subst hk;have HW:Hid ((sgW r)[ix]?=some x1):=hw;have HK:Hid ((sgK r)[ix]?=some x2):=hkk;have HJ:Hid (∀ j,j<ix->(sgK r)[j]?≠some x2):=hj;have HR:Hid (∀ r',r'<r->r'≠3->r'≠0->∀ j,j<4->(sgK r')[j]?≠some x2):=hrow;have hr7:r<7:=by omega
 have HR3:Hid (r≠3):=by show r≠3;omega
 have B0:=Below.refl w.heap.size w;clear hw hkk hj hrow hm h;go_enter Tryz.func213,Tryz.ntmps213;go_wp2_with fail
 go_loopw [3] (fun v wr=>∃row:Nat,v=.int .i64 (row:Nat)/\1<=row/\row<=r/\Below w.heap.size w wr) (fun v _=>8 - (intOf v).toNat)
 case atStart=>exact ⟨1,by go_num,by omega,by omega,B0⟩
 case round =>
  clear B0;obtain ⟨row,rfl,h1,hle,B1⟩:=hrel;have hrI:(row:Int)<7:=by omega
  by_cases h3:row=3
  ·subst h3;have hlt:3<r:=by have:=HR3.out;omega
   go_wp2
   go_roundw
   case rel=>(try ((repeat apply Exists.intro);refine ⟨?_,rfl⟩));exact ⟨4,by go_num,by omega,by omega,B1⟩
   case measure=>simp[intOf]
  ·have b3:((row:Int)==3)=false:=by simp;omega
   obtain ⟨n,hn⟩:∃n,n=(sgW row).length:=⟨_,rfl⟩;have c:=signs_s wr row n (by omega) hn
   have HN:Hid (n=(sgW row).length):=hn;have hn4:n<=4:=by rw[hn];exact (sg_len row).2
   have H3:Hid (row≠3):=h3;clear hn h3 hr;go_wp2_with fail;refine c.mono ?_;rintro e w2 ⟨g1,g2,rfl,sg⟩;have B2:Below w.heap.size w w2:=B1.trans (sg.1.1.mono B1.size);have SG:Hid (g1<w2.heap.size/\g2<w2.heap.size/\(∀ j s,(sgW row)[j]?=some s->w2.cell? ⟨g1,j,none⟩=some (stv s))/\∀ j k,(sgK row)[j]?=some k->w2.cell? ⟨g2,j,none⟩=some (.int .i64 (k:Nat))):=⟨sg.1.2.2.1,sg.2.2.1,sg.1.2.2.2,sg.2.2.2⟩;clear c sg B1;go_wp2_with fail
   go_loopw [6] (fun v wr=>∃i:Nat,v=.int .i64 (i:Nat)/\i<=n/\Hid (row=r->i<=ix)/\wr=w2) (fun v _=>n - (intOf v).toNat)
   case atStart=>exact ⟨0,by go_num,by omega,fun _=>Nat.zero_le _,rfl⟩
   case round =>
    obtain ⟨i,rfl,hin,HI,rfl⟩:=hrel;by_cases hlt:i<n
    ·have hiI:(i:Int)<(n:Int):=by omega
     have hl:=sg_len row;obtain ⟨kk,hkk⟩:∃kk,(sgK row)[i]?=some kk:=⟨_,List.getElem?_eq_getElem (by rw[hl.1,<-HN.out];exact hlt)⟩
     obtain ⟨s,hs⟩:∃s,(sgW row)[i]?=some s:=⟨_,List.getElem?_eq_getElem (by rw[<-HN.out];exact hlt)⟩
     have ck:=SG.out.2.2.2 i kk hkk;have cs:=SG.out.2.2.1 i s hs;by_cases hy:row=r/\i=ix
     ·have e1:kk=x2:=by
       have:=HK.out
       rw[<-hy.1,<-hy.2,hkk] at this;injection this
      have e2:s=x1:=by
       have:=HW.out
       rw[<-hy.1,<-hy.2,hs] at this;injection this
      subst e1 e2;clear hy hkk hs hl;go_wp2;go_ret;exact ⟨rfl,B2⟩
     ·have hne:kk≠x2:=fun e=>by
       rw[e] at hkk;by_cases hrr:row=r
       ·have hi2:i<ix:=by
         have:=HI.out hrr
         have:i≠ix:=fun e=>hy ⟨hrr,e⟩
         omega
        exact HJ.out i hi2 (by rw[<-hrr];exact hkk)
       ·exact HR.out row (by omega) H3.out (by omega) i (by omega) hkk
      have bne2:((kk:Int)==(x2:Int))=false:=by simp;omega
      have HI2:Hid (row=r->i+1<=ix):=fun e=>by
       have:=HI.out e
       have:i≠ix:=fun e2=>hy ⟨e,e2⟩
       omega
      clear hy hkk hs hl hne HI;go_wp2
      go_roundw
      case rel=>(try ((repeat apply Exists.intro);refine ⟨?_,rfl⟩));exact ⟨i+1,by go_num,by omega,HI2,by trivial⟩
      case measure=>simp[intOf];omega
    ·obtain rfl:i=n:=by omega
     have hlt2:row<r:=by
      by_cases e:row=r
      ·have h5:=HI.out e;have h6:ix<(sgW r).length:=(List.getElem?_eq_some_iff.1 HW.out).1;have h7:=HN.out;rw[e] at h7;omega
      ·omega
     clear HI;go_wp2
     go_roundw
     case rel=>(try ((repeat apply Exists.intro);refine ⟨?_,rfl⟩));exact ⟨row+1,by go_num,by omega,by omega,B2⟩
     case measure=>simp[intOf];omega
end Go.Proofs.YtaihhnlfcndecaaGreatDoor
