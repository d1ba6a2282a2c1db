import Derived.Test.YtaihhnlfcndecaaGreatDoorRdqK
set_option maxRecDepth 100000
set_option maxHeartbeats 8000000
namespace Go.Proofs.YtaihhnlfcndecaaGreatDoor
open Go.ChangeShapes Go.WideShapes Go.ChangeAt Go.RowKit
set_option linter.unusedVariables false
set_option linter.unusedSimpArgs false
theorem Ctx.eat {β:Type}{F:List Tk->Rs β}{st0:Sq}{G H:List Tk->Rs β}{x:Tk}{r:List Tk}(h:Ctx F st0 G (.inr (x::r)))(e:G (x::r)=H r):Ctx F st0 H (.inr r):=by
 refine⟨fun ts hs e2=>h.1 (x::r) rfl (by cases hs;rw[e];exact e2),fun X st' q=>h.2 X st' ⟨?_,?_⟩⟩
 ·rw[q.1];simp only[onw];rw[e]
 ·intro ts y t hs hy;cases hs;exact q.2 r y t rfl (by rw[<-e];exact hy)
theorem Ctx.congr {β:Type}{F:List Tk->Rs β}{st0 st:Sq}{G H:List Tk->Rs β}(h:Ctx F st0 G st)(e:∀ ts,st=.inr ts->G ts=H ts):Ctx F st0 H st:=⟨h.1.congr e,fun X st' q=>h.2 X st' (q.congr fun ts hs=>(e ts hs).symm)⟩
theorem op_none {row:Nat}(hr:row=1\/row=2\/row=4\/row=5\/row=6){x:Tk}{r:List Tk}(h:opAt x.t row=none):amgI (sgW row) (.inr (x::r))=-1:=by
 have hn:∀ s,s ∈ sgW row->¬x.t=s:=fun s hs e=>by
  rw[e] at h;rcases hr with rfl|rfl|rfl|rfl|rfl<;>simp only[sgW,List.mem_cons,List.not_mem_nil,or_false] at hs
  all_goals (rcases hs with rfl|rfl|rfl|rfl)<;>revert h<;>decide
 exact amg_no fun j t hj ht=>by
  have:=hn t (List.mem_of_getElem? ht)
  simpa [isS] using this
theorem op_some {row:Nat}(hr:row=1\/row=2\/row=4\/row=5\/row=6){x:Tk}{r:List Tk}{z:List UInt8 × Nat × Nat × Nat × Nat}(h:opAt x.t row=some z) :
  ∃i k:Nat,amgI (sgW row) (.inr (x::r))=(i:Nat)/\(sgK row)[i]?=some k/\i<(sgW row).length/\z.2.1=k/\z.2.2.2.2=row+1/\(row<z.2.2.2.1 ↔ row=4)/\x.t≠[]:=by
 have hz:z ∈ opsL:=List.mem_of_find?_eq_some h;have hp:=List.find?_some h;simp only[Bool.and_eq_true,beq_iff_eq] at hp;obtain⟨h1,h2⟩:=hp;simp only[opsL,List.mem_cons,List.not_mem_nil,or_false] at hz;have key:∀ (L:List (List UInt8)) (i:Nat),L[i]?=some x.t->(∀ j t,j<i->L[j]?=some t->t≠x.t)->amgI L (.inr (x::r))=(i:Nat):=fun L i hi hj=>amg_yes hi (by simp[isS]) fun j t hl ht=>by
  have:=hj j t hl ht
  simp only[isS,beq_eq_false_iff_ne];exact fun e=>this e.symm
 rcases hz with rfl|rfl|rfl|rfl|rfl|rfl|rfl|rfl|rfl|rfl|rfl<;>simp only at h1 h2<;>subst h2
 ·exact⟨0,18,key _ 0 (by rw[<-h1];rfl) (by omega),rfl,by decide,rfl,rfl,by decide,by rw[<-h1];decide⟩
 ·exact⟨0,17,key _ 0 (by rw[<-h1];rfl) (by omega),rfl,by decide,rfl,rfl,by decide,by rw[<-h1];decide⟩
 ·exact⟨0,13,key _ 0 (by rw[<-h1];rfl) (by omega),rfl,by decide,rfl,rfl,by decide,by rw[<-h1];decide⟩
 ·exact⟨1,14,key _ 1 (by rw[<-h1];rfl) (fun j t hj ht=>by rw[<-h1];(obtain rfl:j=0:=by omega);simp[sgW] at ht;subst ht;decide),rfl,by decide,rfl,rfl,by decide,by rw[<-h1];decide⟩
 ·exact⟨3,15,key _ 3 (by rw[<-h1];rfl) (fun j t hj ht=>by rw[<-h1];(obtain rfl|rfl|rfl:j=0\/j=1\/j=2:=by omega)<;>simp[sgW] at ht<;>subst ht<;>decide),rfl,by decide,rfl,rfl,by decide,by rw[<-h1];decide⟩
 ·exact⟨2,16,key _ 2 (by rw[<-h1];rfl) (fun j t hj ht=>by rw[<-h1];(obtain rfl|rfl:j=0\/j=1:=by omega)<;>simp[sgW] at ht<;>subst ht<;>decide),rfl,by decide,rfl,rfl,by decide,by rw[<-h1];decide⟩
 ·exact⟨0,8,key _ 0 (by rw[<-h1];rfl) (by omega),rfl,by decide,rfl,rfl,by decide,by rw[<-h1];decide⟩
 ·exact⟨1,9,key _ 1 (by rw[<-h1];rfl) (fun j t hj ht=>by rw[<-h1];(obtain rfl:j=0:=by omega);simp[sgW] at ht;subst ht;decide),rfl,by decide,rfl,rfl,by decide,by rw[<-h1];decide⟩
 ·exact⟨0,10,key _ 0 (by rw[<-h1];rfl) (by omega),rfl,by decide,rfl,rfl,by decide,by rw[<-h1];decide⟩
 ·exact⟨1,11,key _ 1 (by rw[<-h1];rfl) (fun j t hj ht=>by rw[<-h1];(obtain rfl:j=0:=by omega);simp[sgW] at ht;subst ht;decide),rfl,by decide,rfl,rfl,by decide,by rw[<-h1];decide⟩
 ·exact⟨2,12,key _ 2 (by rw[<-h1];rfl) (fun j t hj ht=>by rw[<-h1];(obtain rfl|rfl:j=0\/j=1:=by omega)<;>simp[sgW] at ht<;>subst ht<;>decide),rfl,by decide,rfl,rfl,by decide,by rw[<-h1];decide⟩
theorem amg_bad (L:List (List UInt8))(ea:Nat × Nat):amgI L (.inl ea)=-1:=amg_no fun _ _ _ _=>rfl
theorem sg_ok {row:Nat}(hr:row=1\/row=2\/row=4\/row=5\/row=6):(∀ s,s ∈ sgW row->s≠[]/\nameB s=false)/\(sgW row).length<=4:=by
 rcases hr with rfl|rfl|rfl|rfl|rfl<;>exact⟨by decide,by decide⟩
theorem blk5 {w:World}{b k:Nat}(hk:k≠b)(b0 b1 b2 b3 b4:Value):(((((w.setCell ⟨b,0,none⟩ b0).setCell ⟨b,1,none⟩ b1).setCell ⟨b,2,none⟩ b2).setCell ⟨b,3,none⟩ b3).setCell ⟨b,4,none⟩ b4).heap[k]?=w.heap[k]?:=by
 rw[heap_setCell_other _ ⟨b,4,none⟩ k _ hk,heap_setCell_other _ ⟨b,3,none⟩ k _ hk,heap_setCell_other _ ⟨b,2,none⟩ k _ hk,heap_setCell_other _ ⟨b,1,none⟩ k _ hk,heap_setCell_other _ ⟨b,0,none⟩ k _ hk]
theorem row_c {rec:Rdr}(R:RecQ rec){w:World}{rb o q m row:Nat}{all:List Tk}{ts:List Tk}(hr:row=1\/row=2\/row=4\/row=5\/row=6)(TI:∀ x,x ∈ all->TokI x)(h:QS w rb all o q (.inr ts))(hn:Nou (fun ts=>(rec (row+1) o q ts).bind fun l t=>chainL rec m row o q l t) (.inr ts)) :
  Calls Tryz.prog 31 #[.pointer (some ⟨rb,0,none⟩),.int .i64 (row:Nat)] w (PostQ rb all o q w (.inr ts) (fun ts=>(rec (row+1) o q ts).bind fun l t=>chainL rec m row o q l t)):=by
 have hrb:=h.lt;obtain⟨F,hF⟩:∃F,F=(fun ts=>(rec (row+1) o q ts).bind fun l t=>chainL rec m row o q l t):=⟨_,rfl⟩
 have C00:=Ctx.start hn;rw[<-hF];have C0:Ctx F (.inr ts) (fun ts=>(rec (row+1) o q ts).bind fun l t=>chainL rec m row o q l t) (.inr ts):=by rw[hF];exact C00
 clear hF hn C00;have K0:Keep rb w (w.alloc exZ):=(Keep.refl rb w).alloc _;have Z0:(w.alloc exZ).heap[w.heap.size]?=some exZ:=heap_alloc_new w _;have h0:=h.alloc exZ;have d4:=h0.e0;have hs1:w.heap.size<(w.alloc exZ).heap.size:=by simp
 have r3:((row:Int)==3)=false:=by rcases hr with rfl|rfl|rfl|rfl|rfl<;>rfl
 have r7:((row:Int)==7)=false:=by rcases hr with rfl|rfl|rfl|rfl|rfl<;>rfl
 have r8:1<=row+1/\row+1<=7:=by omega
 obtain⟨n,hnL⟩:∃n,n=(sgW row).length:=⟨_,rfl⟩
 have c1:=signs_s (w.alloc exZ) row n hr hnL;have HN:Hid (n=(sgW row).length):=hnL;have HR:Hid (row=1\/row=2\/row=4\/row=5\/row=6):=hr;clear hnL hr;go_enter Tryz.func31,Tryz.ntmps31;go_wp2_with fail;refine c1.mono ?_;rintro e w1 ⟨g1,g2,rfl,sg⟩;have k1:=Keep.ofBelow (rb:=rb) sg.1.1;have h1:=h0.below sg.1.1;have SG:Hid (g1<w1.heap.size/\g2<w1.heap.size/\rb<g1/\rb<g2/\(∀ j s,(sgW row)[j]?=some s->w1.cell? ⟨g1,j,none⟩=some (stv s))/\∀ j k,(sgK row)[j]?=some k->w1.cell? ⟨g2,j,none⟩=some (.int .i64 (k:Nat))):=⟨sg.1.2.2.1,sg.2.2.1,by have:=sg.1.2.1;omega,by have:=sg.2.1;omega,sg.1.2.2.2,sg.2.2.2⟩
 have Z1:=k1.blk Z0 (by omega);have K1:=K0.trans k1;have hz1:w.heap.size<w1.heap.size:=lt_of_block Z1;have c2:=R w1 rb all (row+1) o q _ TI r8.1 r8.2 h1 C0.nou;rw[show ((row+1:Nat):Int)=(row:Int)+1 by omega] at c2;clear c1 sg k1 h0 d4 hs1 K0 Z0;have hrw:(row:Int)<=7:=by omega
 go_wp2_with fail;refine c2.mono ?_;rintro e w2 ⟨x2,ao2,cap2,st2,rfl,S2,h2,k2,Q2⟩;have C2:=C0.step Q2;have Z2:=k2.blk Z1 (by omega);have K2:=K1.trans k2;have S2a:=S2.low (show w.heap.size+1<=w1.heap.size by omega);have hz2:w.heap.size<w2.heap.size:=lt_of_block Z2;have h3:=h2.alloc (bxE x2 ao2 cap2);have K3:=K2.alloc (bxE x2 ao2 cap2);have k3:Keep rb w1 (w2.alloc (bxE x2 ao2 cap2)):=k2.alloc _;have Z3:=(Below.heap_alloc w2 (bxE x2 ao2 cap2) _ (lt_of_block Z2)).trans Z2;have L3:(w2.alloc (bxE x2 ao2 cap2)).heap[w2.heap.size]?=some (bxE x2 ao2 cap2):=heap_alloc_new w2 _;have S3:=(S2a.toB' (Nat.le_refl _)).allocB (bxE x2 ao2 cap2);obtain⟨bl,hbl⟩:∃bl,bl=w2.heap.size:=⟨_,rfl⟩
 rw[<-hbl] at S3 L3 hz2;have HBL:Hid (bl=w2.heap.size):=hbl;have hg1:g1<(w2.alloc (bxE x2 ao2 cap2)).heap.size:=by have:=SG.out.1;have:=k3.size;omega
 have c3:=among_s TI (sgW row) (sg_ok HR.out).1 h3 HN.out hg1 (fun j s hj=>(k3.cell SG.out.1 (by have:=SG.out.2.2.1;omega) j).trans (SG.out.2.2.2.2.1 j s hj)) (Nat.le_refl n) (by have:=(sg_ok HR.out).2;have:=HN.out;unfold maxLen;omega);have hw1:w1.heap.size<=bl:=by rw[hbl];exact k2.size
 clear c2 Q2 C0 K1 Z1 S2 S2a h1 h2 k2 Z2 K2 hbl hg1 hz1;rw[exV_out];go_wp2_with fail;refine c3.mono ?_;rintro e w4 ⟨rfl,b4⟩;rw[<-HBL.out];clear c3 HBL;have k4:=Keep.ofBelow (rb:=rb) b4;have h4:=h3.below b4;have Z4:=k4.blk Z3 (by omega);have L4:=k4.blk L3 (by omega);have S4:=S3.keepB k4 (by omega);have K4:=K3.trans k4;have KS4:=k3.trans k4;clear k4 b4 k3 h3 Z3 L3 S3 K3;go_wp2_with fail;go_loopg [8] m (fun g v wr=>∃st left ao cap,v=.int .i64 (amgI (sgW row) st)/\Ctx F (.inr ts) (fun t=>chainL rec g row o q left t) st/\wr.heap[bl]?=some (.cells #[.int .i64 left.k,.int .i64 left.n,stv left.nm,.slice ao left.kids.len cap,.int .i64 left.a] 25 (0,0))/\Sl wr (Nb (w.heap.size+1) bl) left.kids ao/\QS wr rb all o q st/\Keep rb w wr/\Keep rb w1 wr/\wr.heap[w.heap.size]?=some (.cells #[.int .i64 0,.int .i64 0,.string ⟨#[]⟩,.slice none 0 0,.int .i64 0] 25 (0,0)))
 case atStart=>exact⟨st2,x2,ao2,cap2,rfl,C2,L4,S4,h4,K4,KS4,Z4⟩
 case round =>
  clear C2 L4 S4 h4 K4 KS4 Z4;obtain⟨st,left,ao,cap,rfl,C,L5,S5,h5,K5,KS5,Z5⟩:=hrel;have key:Hid (amgI (sgW row) st=-1/\Qd F (.inr ts) left st)\/∃x r g' z,gk=g'+1/\st=.inr (x::r)/\opAt x.t row=some z:=by
   match st,C,h5 with
   | .inl ea,C,h5=>exact .inl ⟨amg_bad _ _,C.2 _ _ (Qd.bad _ _ _)⟩
   | .inr [],C,h5=>exact absurd rfl h5.le.2.2.ne
   | .inr (x::r),C,h5 =>
    cases gk with
    | zero=>exact absurd rfl (C.1 _ rfl)
    | succ g' =>
     cases hz:opAt x.t row with
     | none =>
      refine .inl ⟨op_none HR.out hz,C.2 _ _ ⟨?_,?_⟩⟩
      ·simp only[onw,chainL,hz,stp]
      ·intro ts y t hs hy;cases hs;simp only[chainL,hz] at hy;exact(Rs.ok_inj hy).1
     | some z=>exact .inr ⟨x,r,g',z,rfl,rfl,hz⟩
  rcases key with FIN|⟨x,r,g',z,rfl,rfl,hz⟩
  ·obtain⟨hk,FIN⟩:=FIN.out;have HF:Hid (Qd F (.inr ts) left st):=FIN;rw[hk];have KE:=K5.set5 (b:=w.heap.size) (by omega) (.int .i64 left.k) (.int .i64 left.n) (stv left.nm) (.slice ao left.kids.len cap) (.int .i64 left.a);have RE:=h5.set5 (b:=w.heap.size) (by omega) (.int .i64 left.k) (.int .i64 left.n) (stv left.nm) (.slice ao left.kids.len cap) (.int .i64 left.a);have ZE:=set5k (.int .i64 left.k) (.int .i64 left.n) (stv left.nm) (.slice ao left.kids.len cap) (.int .i64 left.a) Z5;have SE:Sl _ (Nw w.heap.size) _ _:=(S5.set5B (b:=w.heap.size) (.inr (by omega)) (.int .i64 left.k) (.int .i64 left.n) (stv left.nm) (.slice ao left.kids.len cap) (.int .i64 left.a)).lowB (by omega);obtain⟨z0,z1,z2,z3,z4,zf⟩:=box5 Z5;obtain⟨v0,v1,v2,v3,v4,vf⟩:=box5 L5;obtain⟨u0,u1,u2,u3,u4,-⟩:=box5 ZE;clear C FIN hk h5 K5 KS5 Z5 L5 S5 ZE;go_wp2;exact bodyPost_ret (v:=exV left ao cap) (by simp[results,Tryz.results31,go_sem,u0,u1,u2,u3,u4,exV]) rfl ⟨_,_,_,_,rfl,SE,RE,KE,HF.out⟩
  ·obtain⟨i,k,hi,hk,hil,hzk,hzr,hz4,hxt⟩:=op_some (r:=r) HR.out hz;obtain⟨z1,z2,z3,z4,z5⟩:=z;simp only at hzk hzr hz4;subst hzk hzr;have CE:=C.eat (H:=fun t=>(rec (row+1) o q t).bind fun right t2=>if row<z4 then .ok ⟨(z2:Nat),0,[],x.a,(one left).snoc right⟩ t2 else chainL rec g' row o q ⟨(z2:Nat),0,[],x.a,(one left).snoc right⟩ t2) (by simp only[chainL,hz]);rw[hi];have HK:Hid ((sgK row)[i]?=some z2):=hk;have H4:Hid (row<z4 ↔ row=4):=hz4;obtain⟨i2,g,cap3,L,hg,hi2,hcL,hcap,hL,hm,d0,d1,-,-,d4,⟨-,-,-,t3⟩,hf⟩:=h5.ok;have hiI:(i2:Int)<(L:Int):=by omega
   have hi9:i<4:=by have:=(sg_ok HR.out).2;omega
   have hin:i<n:=by rw[HN.out];exact hil
   have hinI:(i:Int)<(n:Int):=by omega
   have hn4:n<=4:=by have:=(sg_ok HR.out).2;have:=HN.out;omega
   clear C hz hi hk hz4 hil;go_wp2_with fail
   go_quiet (fail)
   have b6:Below wr.heap.size wr (wr.drewN nq):=bdr (Below.refl _ _) nq;have k6:=Keep.ofBelow (rb:=rb) b6;have h6:=h5.below b6;generalize wr.drewN nq=w6 at *;have Z6:=k6.blk Z5 (by omega);have L6:=k6.blk L5 (by omega);have S6:=S5.keepB k6 (by omega);have K6:=K5.trans k6;have KS6:=KS5.trans k6;clear b6 k6 h5 Z5 L5 S5 K5 KS5 d0 d1 d4 t3 hf hm;obtain⟨i3,g3,cap4,L4,hg3,hi3,hcL3,hcap3,hL3,hm3,-,d1,-,-,-,-,hf⟩:=h6.ok;have h7:=h6.over (.inl hxt) d1;have k7:=Keep.at (rb:=rb) w6 1 (.int .i64 ((i3:Int)+1));go_upto_region 13 with fail;generalize w6.setCell ⟨rb,1,none⟩ (.int .i64 ((i3:Int)+1))=w7 at *;have Z7:=k7.blk Z6 (by omega);have L7:=k7.blk L6 (by omega);have S7:=S6.keepB k7 (by omega);have K7:=K6.trans k7;have KS7:=KS6.trans k7;clear k7 h6 Z6 L6 S6 K6 KS6 d1 hf hm3;have c8:=R w7 rb all (row+1) o q _ TI r8.1 r8.2 h7 CE.nou;rw[show ((row+1:Nat):Int)=(row:Int)+1 by omega] at c8;have hz7:bl<w7.heap.size:=lt_of_block L7;go_wp2_with fail;refine c8.mono ?_;rintro e w8 ⟨x8,ao8,cap8,st8,rfl,S8,h8,k8,Q8⟩;have C8:=CE.step Q8;have S8b:=S8.toB (n:=w.heap.size+1) (bl:=bl) (by omega) hz7;have Z8:=k8.blk Z7 (by omega);have L8:=k8.blk L7 (by omega);have S8a:=S7.keepB k8 (by omega);have K8:=K7.trans k8;have KS8:=KS7.trans k8;have hz8:bl<w8.heap.size:=lt_of_block L8;clear c8 Q8 CE S8 k8 h7 Z7 L7 S7 K7 KS7 hz7;have h9:=h8.alloc (bxE x8 ao8 cap8);have K9:=K8.alloc (bxE x8 ao8 cap8);have KS9:=KS8.alloc (bxE x8 ao8 cap8);have Z9:=(Below.heap_alloc w8 (bxE x8 ao8 cap8) _ (lt_of_block Z8)).trans Z8;have L9:=(Below.heap_alloc w8 (bxE x8 ao8 cap8) _ (lt_of_block L8)).trans L8;have Y9:(w8.alloc (bxE x8 ao8 cap8)).heap[w8.heap.size]?=some (bxE x8 ao8 cap8):=heap_alloc_new w8 _;have S9a:=S8a.allocB (bxE x8 ao8 cap8);have S9b:=S8b.allocB (bxE x8 ao8 cap8);rw[exV_out];go_upto_region 14 with fail;generalize w8.alloc (bxE x8 ao8 cap8)=w9 at *;generalize w8.heap.size=bb at *;have ck:=(KS9.cell SG.out.2.1 (by have:=SG.out.2.2.2.1;omega) i).trans (SG.out.2.2.2.2.2 i z2 HK.out);obtain⟨v0,v1,v2,v3,v4,vf⟩:=box5 L9;obtain⟨y0,y1,y2,y3,y4,yf⟩:=box5 Y9;have hbl9:bl<w9.heap.size:=lt_of_block L9;have c10:=fun (wx:World) (hx:wx.heap=w9.heap)=>two_s (w:=wx) (P:=Nb (w.heap.size+1) bl) z2 (x.a:Nat) (a:=left) (b:=x8) (aoa:=ao) (aob:=ao8) (ca:=cap) (cb:=cap8) (S9a.mono (fun j _ _=>by rw[hx]) (by rw[hx];exact Nat.le_refl _) (fun _ h _=>h)) (S9b.mono (fun j _ _=>by rw[hx]) (by rw[hx];exact Nat.le_refl _) (fun _ h _=>h)) (by rw[hx];exact⟨by omega,by omega⟩);unfold exV at c10;have HC10:=Lib.hid c10;clear c10 S8a S8b h8 K8 KS8 Z8 L8;have hbd:bl<w9.drew.heap.size:=hbl9;have L9d:w9.drew.heap[bl]?=some (bxE left ao cap):=L9;go_cut [75] (fun v wx=>∃ao10 cap10,wx.heap[bl]?=some (.cells #[.int .i64 (z2:Nat),.int .i64 0,stv [],.slice ao10 ((one left).snoc x8).len cap10,.int .i64 (x.a:Nat)] 25 (0,0))/\Sl wx (Nb (w.heap.size+1) bl) ((one left).snoc x8) ao10/\QS wx rb all o q st8/\Keep rb w wx/\Keep rb w1 wx/\wx.heap[w.heap.size]?=some (.cells #[.int .i64 0,.int .i64 0,.string ⟨#[]⟩,.slice none 0 0,.int .i64 0] 25 (0,0)))
   case first =>
    have HH:Hid (∀ w10 ao10 cap10,Sl w10 (Nb (w.heap.size+1) bl) ((one left).snoc x8) ao10->Below w9.drew.heap.size w9.drew w10->∃ao11 cap11,(((((w10.setCell ⟨bl,0,none⟩ (.int .i64 (z2:Nat))).setCell ⟨bl,1,none⟩ (.int .i64 0)).setCell ⟨bl,2,none⟩ (stv [])).setCell ⟨bl,3,none⟩ (.slice ao10 ((one left).snoc x8).len cap10)).setCell ⟨bl,4,none⟩ (.int .i64 (x.a:Nat))).heap[bl]?=some (.cells #[.int .i64 (z2:Nat),.int .i64 0,stv [],.slice ao11 ((one left).snoc x8).len cap11,.int .i64 (x.a:Nat)] 25 (0,0))/\Sl (((((w10.setCell ⟨bl,0,none⟩ (.int .i64 (z2:Nat))).setCell ⟨bl,1,none⟩ (.int .i64 0)).setCell ⟨bl,2,none⟩ (stv [])).setCell ⟨bl,3,none⟩ (.slice ao10 ((one left).snoc x8).len cap10)).setCell ⟨bl,4,none⟩ (.int .i64 (x.a:Nat))) (Nb (w.heap.size+1) bl) ((one left).snoc x8) ao11/\QS (((((w10.setCell ⟨bl,0,none⟩ (.int .i64 (z2:Nat))).setCell ⟨bl,1,none⟩ (.int .i64 0)).setCell ⟨bl,2,none⟩ (stv [])).setCell ⟨bl,3,none⟩ (.slice ao10 ((one left).snoc x8).len cap10)).setCell ⟨bl,4,none⟩ (.int .i64 (x.a:Nat))) rb all o q st8/\Keep rb w (((((w10.setCell ⟨bl,0,none⟩ (.int .i64 (z2:Nat))).setCell ⟨bl,1,none⟩ (.int .i64 0)).setCell ⟨bl,2,none⟩ (stv [])).setCell ⟨bl,3,none⟩ (.slice ao10 ((one left).snoc x8).len cap10)).setCell ⟨bl,4,none⟩ (.int .i64 (x.a:Nat)))/\Keep rb w1 (((((w10.setCell ⟨bl,0,none⟩ (.int .i64 (z2:Nat))).setCell ⟨bl,1,none⟩ (.int .i64 0)).setCell ⟨bl,2,none⟩ (stv [])).setCell ⟨bl,3,none⟩ (.slice ao10 ((one left).snoc x8).len cap10)).setCell ⟨bl,4,none⟩ (.int .i64 (x.a:Nat)))/\(((((w10.setCell ⟨bl,0,none⟩ (.int .i64 (z2:Nat))).setCell ⟨bl,1,none⟩ (.int .i64 0)).setCell ⟨bl,2,none⟩ (stv [])).setCell ⟨bl,3,none⟩ (.slice ao10 ((one left).snoc x8).len cap10)).setCell ⟨bl,4,none⟩ (.int .i64 (x.a:Nat))).heap[w.heap.size]?=some (.cells #[.int .i64 0,.int .i64 0,.string ⟨#[]⟩,.slice none 0 0,.int .i64 0] 25 (0,0))):=fun w10 ao10 cap10 S10 b10=>by
     have k10:Keep rb w9 w10:=(Keep.refl rb w9).drew.trans (Keep.ofBelow b10);have hq:=(h9.below (Below.refl _ _).drew).below b10;have hl:=(k10.blk L9 (by omega))
     have hzz:=(k10.blk Z9 (by omega))
     exact⟨ao10,cap10,set5k (.int .i64 (z2:Nat)) (.int .i64 0) (stv []) (.slice ao10 ((one left).snoc x8).len cap10) (.int .i64 (x.a:Nat)) hl,S10.set5B (b:=bl) (.inl rfl) (.int .i64 (z2:Nat)) (.int .i64 0) (stv []) (.slice ao10 ((one left).snoc x8).len cap10) (.int .i64 (x.a:Nat)),hq.set5 (b:=bl) (by omega) (.int .i64 (z2:Nat)) (.int .i64 0) (stv []) (.slice ao10 ((one left).snoc x8).len cap10) (.int .i64 (x.a:Nat)),(K9.trans k10).set5 (b:=bl) (by omega) (.int .i64 (z2:Nat)) (.int .i64 0) (stv []) (.slice ao10 ((one left).snoc x8).len cap10) (.int .i64 (x.a:Nat)),(KS9.trans k10).set5 (b:=bl) hw1 (.int .i64 (z2:Nat)) (.int .i64 0) (stv []) (.slice ao10 ((one left).snoc x8).len cap10) (.int .i64 (x.a:Nat)),(blk5 (by omega) (.int .i64 (z2:Nat)) (.int .i64 0) (stv []) (.slice ao10 ((one left).snoc x8).len cap10) (.int .i64 (x.a:Nat))).trans hzz⟩
    clear h9 K9 KS9 Z9 L9 Y9 S9a S9b;go_region_with ((go_at_call 61;refine(HC10.out w9.drew rfl).mono ?_;rintro e w10 ⟨ao10,cap10,rfl,S10,b10⟩;have L10:=(b10.block bl hbd).trans L9d;have FX:=HH.out _ _ cap10 S10 b10;obtain⟨q0,q1,q2,q3,q4,qf⟩:=box5 L10))
    all_goals
     go_wp2;go_meet;exact FX
   case rest =>
   obtain⟨ao10,cap10,L11,S11,h11,K11,KS11,Z11⟩:=hcut;clear h9 K9 KS9 Z9 L9 Y9 S9a S9b HC10 ck v0 v1 v2 v3 v4 vf y0 y1 y2 y3 y4 yf hbd L9d hbl9 hz8;have hg1:g1<wc.heap.size:=by have:=SG.out.1;have:=KS11.size;omega
   have c12:=among_s TI (sgW row) (sg_ok HR.out).1 h11 HN.out hg1 (fun j s hj=>(KS11.cell SG.out.1 (by have:=SG.out.2.2.1;omega) j).trans (SG.out.2.2.2.2.1 j s hj)) (Nat.le_refl n) (by unfold maxLen;omega);go_wp2_with fail;refine c12.mono ?_;rintro e w13 ⟨rfl,b13⟩;have k13:=Keep.ofBelow (rb:=rb) b13;have h13:=h11.below b13;have Z13:=k13.blk Z11 (by omega);have L13:=k13.blk L11 (by omega);have S13:=S11.keepB k13 (by omega);have K13:=K11.trans k13;have KS13:=KS11.trans k13;clear c12 b13 k13 h11 Z11 L11 S11 K11 KS11 hg1;by_cases h4:row=4
   ·have C9:=(C8.congr (H:=fun t2=>.ok ⟨(z2:Nat),0,[],x.a,(one left).snoc x8⟩ t2) (fun t _=>if_pos (H4.out.2 h4))).fin;have HF:Hid (Qd F (.inr ts) ⟨(z2:Nat),0,[],x.a,(one left).snoc x8⟩ st8):=C9;have hr4:((row:Int)==4)=true:=by rw[h4];rfl
    have KE:=K13.set5 (b:=w.heap.size) (by omega) (.int .i64 (z2:Nat)) (.int .i64 0) (stv []) (.slice ao10 ((one left).snoc x8).len cap10) (.int .i64 (x.a:Nat));have RE:=h13.set5 (b:=w.heap.size) (by omega) (.int .i64 (z2:Nat)) (.int .i64 0) (stv []) (.slice ao10 ((one left).snoc x8).len cap10) (.int .i64 (x.a:Nat));have ZE:=set5k (.int .i64 (z2:Nat)) (.int .i64 0) (stv []) (.slice ao10 ((one left).snoc x8).len cap10) (.int .i64 (x.a:Nat)) Z13;have SE:Sl _ (Nw w.heap.size) _ _:=(S13.set5B (b:=w.heap.size) (.inr (by omega)) (.int .i64 (z2:Nat)) (.int .i64 0) (stv []) (.slice ao10 ((one left).snoc x8).len cap10) (.int .i64 (x.a:Nat))).lowB (by omega);obtain⟨z0,z1,z2',z3',z4',zf⟩:=box5 Z13;obtain⟨v0,v1,v2,v3,v4,vf⟩:=box5 L13;obtain⟨u0,u1,u2,u3,u4,-⟩:=box5 ZE;clear C8 C9 h4 h13 K13 KS13 Z13 L13 S13 ZE;go_wp2;exact bodyPost_ret (v:=exV ⟨(z2:Nat),0,[],x.a,(one left).snoc x8⟩ ao10 cap10) (by simp[results,Tryz.results31,go_sem,u0,u1,u2,u3,u4,exV]) rfl ⟨_,_,_,_,rfl,SE,RE,KE,HF.out⟩
   ·have C9:=C8.congr (H:=fun t2=>chainL rec g' row o q ⟨(z2:Nat),0,[],x.a,(one left).snoc x8⟩ t2) (fun t _=>if_neg (fun e=>h4 (H4.out.1 e)));have hr4:((row:Int)==4)=false:=by simp;omega
    clear C8 h4;go_wp2
    go_roundg g'
    case rel=>(try ((repeat apply Exists.intro);refine⟨?_,rfl⟩));exact⟨st8,⟨(z2:Nat),0,[],x.a,(one left).snoc x8⟩,ao10,cap10,rfl,C9,L13,S13,h13,K13,KS13,Z13⟩
    all_goals omega
theorem Rs.bind_assoc {α β γ:Type}(r:Rs α)(f:α->List Tk->Rs β)(g:β->List Tk->Rs γ):(r.bind f).bind g=r.bind fun x t=>(f x t).bind g:=by
 cases r using Rs.on with
 | out=>rfl
 | bad e a=>rfl
 | ok x t=>rfl
def callR (rec:Rdr)(many n a o q:Nat)(ts:List Tk):Rs Ex:=(argsR rec many o q ts.tail).bind fun ks t1=>.ok ⟨20,(n:Int)+1,[],(a:Nat),ks⟩ t1
theorem Rq.same {w w2:World}{rb i:Nat}{o q:Int}{er pl:Nat}{all:List Tk}(h:Rq w rb i o q er pl all)(hb:∀ k,k<=rb->w2.heap[k]?=w.heap[k]?):Rq w2 rb i o q er pl all:=by
 obtain⟨g,cap,h1,h2,h4,h5⟩:=h;exact⟨g,cap,(hb rb (Nat.le_refl _)).trans h1,h2,fun j u hu=>(World.cell?_of_block (a:=⟨g,j,none⟩) (hb g (by omega))).trans (h4 j u hu),h5⟩
theorem QS.same {w w2:World}{rb o q:Nat}{all:List Tk}{st:Sq}(h:QS w rb all o q st)(hb:∀ k,k<=rb->w2.heap[k]?=w.heap[k]?):QS w2 rb all o q st:=by
 match st,h with
 | .inl (er,a),⟨i,o',q',h1,h2⟩=>exact⟨i,o',q',h1.same hb,h2⟩
 | .inr ts,⟨i,pl,h1,h2⟩=>exact⟨i,pl,h1.same hb,h2⟩
theorem QS.step1 {w w2:World}{o2:Nat->Nat}{rb g o q:Nat}{all:List Tk}{st:Sq}(h:QS w rb all o q st)(s:Step (fun x=>x=1) w (lab1 g) w2 o2)(hg:rb<g):QS w2 rb all o q st:=h.same fun k hk=>s.block k (by have:=h.lt;omega) (by unfold lab1;rw[if_neg (by omega)];decide)
theorem Rs.ok_bind {α β:Type}(x:α)(t:List Tk)(f:α->List Tk->Rs β):(Rs.ok x t).bind f=f x t:=rfl
theorem call1_q {rec:Rdr}(R:RecQ rec){w:World}{rb o q n:Nat}{all:List Tk}{x:Tk}{r:List Tk}(TI:∀ x,x ∈ all->TokI x)(hxt:x.t≠[])(hn9:3<=n/\n<10)(h:QS w rb all o q (.inr (x::r)))(hn:Nou (callR rec 1 n x.a o q) (.inr (x::r))) :
  Calls Tryz.prog 138 #[.pointer (some ⟨rb,0,none⟩),.int .i64 (n:Nat),.int .i64 (x.a:Nat)] w (PostQ rb all o q w (.inr (x::r)) (callR rec 1 n x.a o q)):=by
 have hrb:=h.lt;have K0:Keep rb w (w.alloc exZ):=(Keep.refl rb w).alloc _;have Z0:(w.alloc exZ).heap[w.heap.size]?=some exZ:=heap_alloc_new w _;have h0:=h.alloc exZ;have C0:=Ctx.start hn;have C1:=C0.eat (H:=(fun ts=>(enterT [40] o ts).bind fun _ t1=>(rec 1 (o+1) q t1).bind fun e t2=>(passT [41] t2).bind fun _ t4=>.ok ⟨20,(n:Int)+1,[],(x.a:Nat),one e⟩ t4)) (by simp only[callR,List.tail_cons,argsR,argsL,Rs.bind_assoc,Rs.ok_bind,Nat.sub_self,Nat.reduceSub]);have hs1:w.heap.size<(w.alloc exZ).heap.size:=by simp
 have hnI:¬(n:Int)<3:=by omega
 obtain⟨ii,hii,hzi0,hzi1,hzi2⟩:=info_parts infoExpr;obtain⟨i,g,cap,L,hg,hi,hcL,hcap,hL,hm,-,d1,-,-,-,-,hf⟩:=h0.ok;have h1:=h0.over (.inl hxt) d1;have k1:=Keep.at (rb:=rb) (w.alloc exZ) 1 (.int .i64 ((i:Int)+1));clear C0 hn h0 hm;go_enter Tryz.func138,Tryz.ntmps138;go_upto_region 1 with fail;generalize w.alloc exZ=v0 at *;go_upto_region 2 with fail;generalize v0.setCell ⟨rb,1,none⟩ (.int .i64 ((i:Int)+1))=w1 at *;clear d1 hf;have Z1:=k1.blk Z0 (by have:=K0.size;omega);have K1:=K0.trans k1;clear K0 Z0;have c2:=bracket_v TI [40] ⟨by decide,by decide⟩ h1;go_wp2_with fail;refine c2.mono ?_;rintro e w2 ⟨x2,st2,rfl,h2,k2,Q2⟩;have C2:=C1.step Q2;clear c2 Q2 C1;have Z2:=k2.blk Z1 (by have:=K1.size;omega);have K2:=K1.trans k2;clear K1 Z1;have c3:=R _ rb all 1 (o+1) (q) st2 TI (by omega) (by omega) h2 C2.nou;go_wp2_with fail;refine c3.mono ?_;rintro e w3 ⟨x3,ao3,cap3,st3,rfl,S3,h3,k3,Q3⟩;have C3:=C2.step Q3;clear c3 Q3 C2;have S3a:=S3.low (show (w.heap.size+1)<=_ from (by have:=lt_of_block Z2;omega));clear S3;have Z3:=k3.blk Z2 (by have:=K2.size;omega);have K3:=K2.trans k3;clear K2 Z2;have A3_a:=Acc.one cap3 S3a (by have:=lt_of_block Z3;omega);have h3a:=h3.alloc (.cells #[.int .i64 x3.k,.int .i64 x3.n,stv x3.nm,.slice ao3 x3.kids.len cap3,.int .i64 x3.a] 25);have K3a:=K3.alloc (.cells #[.int .i64 x3.k,.int .i64 x3.n,stv x3.nm,.slice ao3 x3.kids.len cap3,.int .i64 x3.a] 25);have Z3a:=(Below.heap_alloc w3 (.cells #[.int .i64 x3.k,.int .i64 x3.n,stv x3.nm,.slice ao3 x3.kids.len cap3,.int .i64 x3.a] 25) _ (lt_of_block Z3)).trans Z3;clear h3 K3 Z3 S3a;rw[exV_out];have c4:=close_v TI [41] ⟨by decide,by decide⟩ h3a;go_wp2_with fail;refine c4.mono ?_;rintro e w4 ⟨x4,st4,rfl,h4,k4,Q4⟩;have C4:=C3.step Q4;clear c4 Q4 C3;have Z4:=k4.blk Z3a (by have:=K3a.size;omega);have K4:=K3a.trans k4;have A3_4:=A3_a.keep k4 (by omega);clear K3a Z3a A3_a;obtain⟨aoF,capF,hvF,SF⟩:=A3_4.sl;simp only[Value.slice.injEq] at hvF;obtain⟨rfl,-,rfl⟩:=hvF;have KE:=K4.set5 (b:=w.heap.size) (by omega) (.int .i64 20) (.int .i64 ((n:Int)+1)) (stv []) (.slice (some ⟨w3.heap.size,0,none⟩) 1 1) (.int .i64 x.a);have RE:=h4.set5 (b:=w.heap.size) (by omega) (.int .i64 20) (.int .i64 ((n:Int)+1)) (stv []) (.slice (some ⟨w3.heap.size,0,none⟩) 1 1) (.int .i64 x.a);have ZE:=set5k (.int .i64 20) (.int .i64 ((n:Int)+1)) (stv []) (.slice (some ⟨w3.heap.size,0,none⟩) 1 1) (.int .i64 x.a) Z4;have SE:Sl _ (Nw w.heap.size) _ _:=(SF.set5 (b:=w.heap.size) (by omega) (.int .i64 20) (.int .i64 ((n:Int)+1)) (stv []) (.slice (some ⟨w3.heap.size,0,none⟩) 1 1) (.int .i64 x.a)).low (by omega);obtain⟨z0,z1,z2,z3,z4,zf⟩:=box5 Z4;obtain⟨u0,u1,u2,u3,u4,-⟩:=box5 ZE;have FIN:=C4.fin;clear ZE SF K4 Z4 h4 A3_4;go_wp2;exact bodyPost_ret (v:=exV ⟨20,((n:Int)+1),[],x.a,(one x3)⟩ (some ⟨w3.heap.size,0,none⟩) 1) (by simp[results,Tryz.results138,go_sem,u0,u1,u2,u3,u4,exV];try rfl) rfl ⟨_,_,_,_,rfl,SE,RE,KE,FIN⟩
theorem call2_q {rec:Rdr}(R:RecQ rec){w:World}{rb o q n:Nat}{all:List Tk}{x:Tk}{r:List Tk}(TI:∀ x,x ∈ all->TokI x)(hxt:x.t≠[])(hn9:n<3)(h:QS w rb all o q (.inr (x::r)))(hn:Nou (callR rec 2 n x.a o q) (.inr (x::r))) :
  Calls Tryz.prog 138 #[.pointer (some ⟨rb,0,none⟩),.int .i64 (n:Nat),.int .i64 (x.a:Nat)] w (PostQ rb all o q w (.inr (x::r)) (callR rec 2 n x.a o q)):=by
 have hrb:=h.lt;have K0:Keep rb w (w.alloc exZ):=(Keep.refl rb w).alloc _;have Z0:(w.alloc exZ).heap[w.heap.size]?=some exZ:=heap_alloc_new w _;have h0:=h.alloc exZ;have C0:=Ctx.start hn;have C1:=C0.eat (H:=(fun ts=>(enterT [40] o ts).bind fun _ t1=>(rec 1 (o+1) q t1).bind fun e t2=>(passT [44] t2).bind fun _ t2b=>(rec 1 (o+1) q t2b).bind fun e2 t2c=>(passT [41] t2c).bind fun _ t4=>.ok ⟨20,(n:Int)+1,[],(x.a:Nat),(one e).snoc e2⟩ t4)) (by simp only[callR,List.tail_cons,argsR,argsL,Rs.bind_assoc,Rs.ok_bind,Nat.sub_self,Nat.reduceSub]);have hs1:w.heap.size<(w.alloc exZ).heap.size:=by simp
 have hnI:(n:Int)<3:=by omega
 obtain⟨ii,hii,hzi0,hzi1,hzi2⟩:=info_parts infoExpr;obtain⟨i,g,cap,L,hg,hi,hcL,hcap,hL,hm,-,d1,-,-,-,-,hf⟩:=h0.ok;have h1:=h0.over (.inl hxt) d1;have k1:=Keep.at (rb:=rb) (w.alloc exZ) 1 (.int .i64 ((i:Int)+1));clear C0 hn h0 hm;go_enter Tryz.func138,Tryz.ntmps138;go_upto_region 1 with fail;generalize w.alloc exZ=v0 at *;go_upto_region 2 with fail;generalize v0.setCell ⟨rb,1,none⟩ (.int .i64 ((i:Int)+1))=w1 at *;clear d1 hf;have Z1:=k1.blk Z0 (by have:=K0.size;omega);have K1:=K0.trans k1;clear K0 Z0;have c2:=bracket_v TI [40] ⟨by decide,by decide⟩ h1;go_wp2_with fail;refine c2.mono ?_;rintro e w2 ⟨x2,st2,rfl,h2,k2,Q2⟩;have C2:=C1.step Q2;clear c2 Q2 C1;have Z2:=k2.blk Z1 (by have:=K1.size;omega);have K2:=K1.trans k2;clear K1 Z1;have c3:=R _ rb all 1 (o+1) (q) st2 TI (by omega) (by omega) h2 C2.nou;go_wp2_with fail;refine c3.mono ?_;rintro e w3 ⟨x3,ao3,cap3,st3,rfl,S3,h3,k3,Q3⟩;have C3:=C2.step Q3;clear c3 Q3 C2;have S3a:=S3.low (show (w.heap.size+1)<=_ from (by have:=lt_of_block Z2;omega));clear S3;have Z3:=k3.blk Z2 (by have:=K2.size;omega);have K3:=K2.trans k3;clear K2 Z2;have A3_a:=Acc.one cap3 S3a (by have:=lt_of_block Z3;omega);have h3a:=h3.alloc (.cells #[.int .i64 x3.k,.int .i64 x3.n,stv x3.nm,.slice ao3 x3.kids.len cap3,.int .i64 x3.a] 25);have K3a:=K3.alloc (.cells #[.int .i64 x3.k,.int .i64 x3.n,stv x3.nm,.slice ao3 x3.kids.len cap3,.int .i64 x3.a] 25);have Z3a:=(Below.heap_alloc w3 (.cells #[.int .i64 x3.k,.int .i64 x3.n,stv x3.nm,.slice ao3 x3.kids.len cap3,.int .i64 x3.a] 25) _ (lt_of_block Z3)).trans Z3;clear h3 K3 Z3 S3a;rw[exV_out];have c4:=take_v TI [44] ⟨by decide,by decide⟩ h3a;go_wp2_with fail;refine c4.mono ?_;rintro e w4 ⟨x4,st4,rfl,h4,k4,Q4⟩;have C4:=C3.step Q4;clear c4 Q4 C3;have Z4:=k4.blk Z3a (by have:=K3a.size;omega);have K4:=K3a.trans k4;have A3_4:=A3_a.keep k4 (by omega);clear K3a Z3a A3_a;have c5:=R _ rb all 1 (o+1) (q) st4 TI (by omega) (by omega) h4 C4.nou;go_wp2_with fail;refine c5.mono ?_;have hw5:w3.heap.size<w4.heap.size:=by obtain⟨g9,c9,x9,hv9,B9⟩:=A3_4;simp only[Value.slice.injEq,Option.some.injEq,Addr.mk.injEq,true_and,and_true] at hv9;obtain⟨e9,-,-⟩:=hv9;subst e9;exact B9.row.lt rfl
 rintro e w5 ⟨x5,ao5,cap5,st5,rfl,SN0,h5,k5,Q5⟩;have C5:=C4.step Q5;clear c5 Q5 C4;have SN:=SN0;have S5a:=SN0.low (show (w.heap.size+1)<=_ from (by have:=lt_of_block Z4;omega));clear SN0;have Z5:=k5.blk Z4 (by have:=K4.size;omega);have K5:=K4.trans k5;have A3_5:=A3_4.keep k5 (by omega);clear K4 Z4 A3_4;obtain⟨gA,capA,xs,hvA,AG⟩:=A3_5;simp only[Value.slice.injEq,Option.some.injEq,Addr.mk.injEq,true_and,and_true] at hvA;obtain⟨hgA,-,rfl⟩:=hvA;subst hgA;have AG8:AccG (World.alloc w5 (.cells #[.int .i64 x5.k,.int .i64 x5.n,stv x5.nm,.slice ao5 x5.kids.len cap5,.int .i64 x5.a] 25)) (w.heap.size+1) (one x3) w3.heap.size 1 xs:=⟨AG.1,(AG.row.step (allocStep (fun _=>False) w5 (lab1 w3.heap.size) _) id).1,AG.2.2.mono (fun i hp hl=>Below.heap_alloc w5 _ i hl) (by simp) (fun _ h _=>h)⟩
 have S8:=SN.allocN (.cells #[.int .i64 x5.k,.int .i64 x5.n,stv x5.nm,.slice ao5 x5.kids.len cap5,.int .i64 x5.a] 25);have h8:=h5.alloc (.cells #[.int .i64 x5.k,.int .i64 x5.n,stv x5.nm,.slice ao5 x5.kids.len cap5,.int .i64 x5.a] 25);have K8:=K5.alloc (.cells #[.int .i64 x5.k,.int .i64 x5.n,stv x5.nm,.slice ao5 x5.kids.len cap5,.int .i64 x5.a] 25);have Z8:=(Below.heap_alloc w5 (.cells #[.int .i64 x5.k,.int .i64 x5.n,stv x5.nm,.slice ao5 x5.kids.len cap5,.int .i64 x5.a] 25) _ (lt_of_block Z5)).trans Z5;have hone:∀ u ∈ [Value.int .i64 x5.k,.int .i64 x5.n,stv x5.nm,.slice ao5 x5.kids.len cap5,.int .i64 x5.a],u.oneCell'=true:=by intro u hu;simp at hu;rcases hu with rfl|rfl|rfl|rfl|rfl<;>rfl
 have b1:1+1<=maxLen:=by unfold maxLen;omega
 have b2:(1+1)*64<=140737488355328:=by omega
 have l1:(one x3).len=1:=rfl;have AR:=AG8.row;rw[l1] at AR;clear l1;clear AG h5 K5 Z5 S5a SN;rw[exV_out];go_wp2_with (first|(at_builtin;refine wpList_append_lab rfl (.tmp 24) (.tmp 27) 23 rfl 25 ii _ 5 64 Tryz.underlying23 hii hzi0 hzi1 hzi2 rfl (by decide) (lab1 w3.heap.size) 1 _ 1 xs rfl AR ⟨w5.heap.size,0,none⟩ 1 1 [.int .i64 x5.k,.int .i64 x5.n,stv x5.nm,.slice ao5 x5.kids.len cap5,.int .i64 x5.a] rfl rfl (new_cells_at w5 _ _) hone (by decide) b1 b2 ?_)|go_in);intro g8 c8 w8 o8 r8 s8;have A8:=Acc.push AG8 S8 hw5 (by have:=lt_of_block Z8;omega) s8 r8;have hgr:w.heap.size+1<=w3.heap.size:=AG8.1;have h9:=h8.step1 s8 (by omega);have K9:=K8.step1 s8 (by omega);have Z9:=(s8.block w.heap.size (lt_of_block Z8) (by unfold lab1;rw[if_neg (by omega)];decide)).trans Z8;clear AG8 AR S8 h8 K8 Z8 r8 s8 hone b1 b2 hii hzi0 hzi1 hzi2 ii hw5 hgr xs;have c11:=close_v TI [41] ⟨by decide,by decide⟩ h9;go_wp2_with fail;refine c11.mono ?_;rintro e w11 ⟨x11,st11,rfl,h11,k11,Q11⟩;have C11:=C5.step Q11;clear c11 Q11 C5;have Z11:=k11.blk Z9 (by have:=K9.size;omega);have K11:=K9.trans k11;have A8_11:=A8.keep k11 (by omega);clear K9 Z9 A8;obtain⟨aoF,capF,hvF,SF⟩:=A8_11.sl;simp only[Value.slice.injEq] at hvF;obtain⟨rfl,-,rfl⟩:=hvF;have KE:=K11.set5 (b:=w.heap.size) (by omega) (.int .i64 20) (.int .i64 ((n:Int)+1)) (stv []) (.slice (some ⟨g8,0,none⟩) 2 c8) (.int .i64 x.a);have RE:=h11.set5 (b:=w.heap.size) (by omega) (.int .i64 20) (.int .i64 ((n:Int)+1)) (stv []) (.slice (some ⟨g8,0,none⟩) 2 c8) (.int .i64 x.a);have ZE:=set5k (.int .i64 20) (.int .i64 ((n:Int)+1)) (stv []) (.slice (some ⟨g8,0,none⟩) 2 c8) (.int .i64 x.a) Z11;have SE:Sl _ (Nw w.heap.size) _ _:=(SF.set5 (b:=w.heap.size) (by omega) (.int .i64 20) (.int .i64 ((n:Int)+1)) (stv []) (.slice (some ⟨g8,0,none⟩) 2 c8) (.int .i64 x.a)).low (by omega);obtain⟨z0,z1,z2,z3,z4,zf⟩:=box5 Z11;obtain⟨u0,u1,u2,u3,u4,-⟩:=box5 ZE;have FIN:=C11.fin;clear ZE SF K11 Z11 h11 A8_11;go_wp2;exact bodyPost_ret (v:=exV ⟨20,((n:Int)+1),[],x.a,((one x3).snoc x5)⟩ (some ⟨g8,0,none⟩) c8) (by simp[results,Tryz.results138,go_sem,u0,u1,u2,u3,u4,exV];try rfl) rfl ⟨_,_,_,_,rfl,SE,RE,KE,FIN⟩
theorem ctx_bad {β:Type}{F:List Tk->Rs β}{st0:Sq}{ea:Nat × Nat}{G H:List Tk->Rs β}(h:Ctx F st0 G (.inl ea)):Ctx F st0 H (.inl ea):=h.congr fun ts hs=>by cases hs
def hdG (rec:Rdr)(g o q:Nat)(K:Fs->List Tk->Rs Ex)(acc:Fs):Bool->List Tk->Rs Ex
 | true=>fun t=>K acc t
 | false=>fun t=>(rec 1 o q t).bind fun e t1=>(memL rec g o q (acc.snoc e) t1).bind K
theorem snoc_nil (e:Ex):Fs.snoc .nil e=one e:=by simp only[Fs.snoc,Fs.app]
theorem mem_start {rec:Rdr}{m o q:Nat}{K:Fs->List Tk->Rs Ex}{F:List Tk->Rs Ex}{st0 st:Sq}(h:Ctx F st0 (fun t=>(memR rec m o q t).bind K) st)(hne:∀ ts,st=.inr ts->ts≠[]):Ctx F st0 (hdG rec m o q K .nil (isS [125] st)) st:=by
 match st,h,hne with
 | .inl ea,h,_=>exact ctx_bad h
 | .inr [],h,hne=>exact absurd rfl (hne [] rfl)
 | .inr (x::r),h,_ =>
  by_cases hx:x.t=[125]
  ·rw[show isS [125] (.inr (x::r))=true by simp[isS,hx]];refine h.congr fun ts hs=>?_;cases hs;simp only[memR,hx,if_true,hdG];rfl
  ·rw[show isS [125] (.inr (x::r))=false by simp[isS,hx]];refine h.congr fun ts hs=>?_;cases hs;simp only[memR,hx,if_false,hdG,Rs.bind_assoc,snoc_nil]
theorem mem_end {rec:Rdr}{g o q:Nat}{K:Fs->List Tk->Rs Ex}{F:List Tk->Rs Ex}{st0 st:Sq}{acc:Fs}(h:Ctx F st0 (fun t=>(memL rec g o q acc t).bind K) st)(hs:isS [125] st=true):Ctx F st0 (hdG rec 0 o q K acc true) st:=by
 obtain⟨x,r,rfl,hx⟩:=isS_true hs;cases g with
 | zero=>exact absurd rfl (h.1 _ rfl)
 | succ g =>
  refine h.congr fun ts hs=>?_;cases hs;simp only[memL,hdG];rw[if_neg (by rw[hx];decide)];rfl
theorem mem_comma {rec:Rdr}{g o q:Nat}{K:Fs->List Tk->Rs Ex}{F:List Tk->Rs Ex}{st0 st:Sq}{acc:Fs}(h:Ctx F st0 (fun t=>(memL rec g o q acc t).bind K) st)(hK:∀ (x:Tk) r,x.t≠[125]->K acc (x::r)=.bad 120 x.a)(hs:isS [125] st=false)(hne:∀ ts,st=.inr ts->ts≠[]) :
  ∃g',Ctx F st0 (hdG rec g' o q K acc false) (onw (passT [44]) st)/\(g=g'+1\/∃ea,onw (passT [44]) st=.inl ea):=by
 match st,h,hs,hne with
 | .inl ea,h,_,_=>exact⟨0,ctx_bad h,.inr ⟨ea,rfl⟩⟩
 | .inr [],h,_,hne=>exact absurd rfl (hne [] rfl)
 | .inr (x::r),h,hs,_ =>
  have hx:¬x.t=[125]:=by simpa [isS] using hs
  cases g with
  | zero=>exact absurd rfl (h.1 _ rfl)
  | succ g =>
   by_cases hc:x.t=[44]
   ·have e1:onw (passT [44]) (.inr (x::r))=.inr r:=by simp[onw,passT,hc,stp]
    rw[e1];refine⟨g,h.eat ?_,.inl rfl⟩;simp only[memL,hc,if_true,hdG,Rs.bind_assoc]
   ·have e1:onw (passT [44]) (.inr (x::r))=.inl (120,x.a):=by simp[onw,passT,hc,stp]
    rw[e1];have e2:(memL rec (g+1) o q acc (x::r)).bind K=.bad 120 x.a:=by
     simp only[memL,hc,if_false];exact hK x r hx
    refine⟨g,⟨fun ts hs=>(by cases hs),fun X st' q=>h.2 X st' ?_⟩,.inl rfl⟩;rw[q.1];exact⟨by simp only[onw];rw[e2];rfl,fun ts y t hs hy=>by cases hs;have hy:(memL rec (g+1) o _ acc (x::r)).bind K=_:=hy;rw[e2] at hy;cases hy⟩
theorem Keep.lab {rb:Nat}{w w':World}{o:Nat->Nat}(k:Keep rb w w')(h7:o rb=7):Step (fun x=>x=7) w o w' (newLab w o 0):=⟨k.os,k.tape,k.output,k.size,fun j hj=>newLab_old hj,fun j hj hn=>k.block j hj fun e=>hn (by rw[e,h7])⟩
structure Lb7 (rb n0:Nat)(o:Nat->Nat):Prop where
 r:o rb=7
 z:o n0=3
 b:o (n0+1)=1
 low:∀ k,k<n0->k≠rb->o k=0
theorem lb7_new {rb n0:Nat}(h:rb<n0):Lb7 rb n0 (fun k=>if k=rb then 7 else if k=n0+1 then 1 else if k=n0 then 3 else 0):=by
 refine⟨by simp,?_,?_,fun k hk hn=>?_⟩
 ·show (if n0=rb then 7 else if n0=n0+1 then 1 else if n0=n0 then 3 else 0)=3;rw[if_neg (by omega),if_neg (by omega),if_pos rfl]
 ·show (if n0+1=rb then 7 else if n0+1=n0+1 then 1 else if n0+1=n0 then 3 else 0)=1;rw[if_neg (by omega),if_pos rfl]
 ·show (if k=rb then 7 else if k=n0+1 then 1 else if k=n0 then 3 else 0)=0;rw[if_neg hn,if_neg (by omega),if_neg (by omega)]
theorem Lb7.n2 {rb n0:Nat}{o:Nat->Nat}(l:Lb7 rb n0 o):∀ k,k<n0->o k≠2:=fun k hk=>by
 by_cases e:k=rb
 ·rw[e,l.r];decide
 ·rw[l.low k hk e];decide
theorem AccL.sl2 {w:World}{o:Nat->Nat}{n0:Nat}{acc:Fs}{v:Value}(h:AccL w o n0 acc v)(ho:∀ k,k<n0->o k≠2):∃ao cap,v=.slice ao acc.len cap/\Sl w (fun b=>n0<=b/\(o b=0\/o b=2)) acc ao:=by
 obtain⟨xs,r,f⟩:=h;by_cases h0:0<acc.len
 ·obtain⟨g,cap,rfl,hg,_,_,hlt,hc,_⟩:=r.pos h0;have hl:=r.len;refine⟨_,cap,rfl,.inr ⟨g,0,xs,rfl,⟨?_,.inr hg⟩,hlt,fun j u hu=>?_,f.mono (fun _ _ _=>rfl) (Nat.le_refl _) (fun _ hp _=>⟨hp.1,.inl hp.2⟩)⟩⟩
  ·by_cases hn:n0<=g
   ·exact hn
   ·exact absurd hg (ho g (by omega))
  ·rw[Nat.zero_add,hc j ?_]
   ·exact hu
   ·rw[<-hl];by_cases hj:j<xs.length
    ·exact hj
    ·rw[List.getElem?_eq_none (by omega)] at hu;cases hu
 ·obtain⟨ao,cap,rfl⟩:=r.form;refine⟨ao,cap,rfl,.inl ?_⟩;cases acc using Fs.on with
  | nil=>rfl
  | cons k n nm a ks r=>simp[Fs.len] at h0
theorem Lb7.step {rb n0:Nat}{I:Nat->Prop}{w w':World}{o o':Nat->Nat}(h:Lb7 rb n0 o)(s:Step I w o w' o')(hr:rb<n0)(hn:n0+1<w.heap.size):Lb7 rb n0 o' :=
 ⟨(s.lab _ (by omega)).trans h.r,(s.lab _ (by omega)).trans h.z,(s.lab _ hn).trans h.b,fun k hk hn2=>(s.lab _ (by omega)).trans (h.low k hk hn2)⟩
theorem QS.lab {I:Nat->Prop}{w w':World}{o' o2:Nat->Nat}{rb n0 o q:Nat}{all:List Tk}{st:Sq}(h:QS w rb all o q st)(s:Step I w o' w' o2)(l:Lb7 rb n0 o')(hr:rb<n0)(h7:¬I 7)(h0:¬I 0):QS w' rb all o q st:=h.same fun k hk=>s.block k (by have:=h.lt;omega) (by
 by_cases e:k=rb
 ·rw[e,l.r];exact h7
 ·rw[l.low k (by omega) e];exact h0)
theorem Keep.lab0 {I:Nat->Prop}{rb n0:Nat}{a w w':World}{o o':Nat->Nat}(K:Keep rb a w)(s:Step I w o w' o')(l:Lb7 rb n0 o)(hn:a.heap.size=n0)(h0:¬I 0):Keep rb a w' :=
 ⟨s.os.trans K.os,s.tape.trans K.tape,s.output.trans K.output,Nat.le_trans K.size s.size,fun k hk hn2=>(s.block k (Nat.lt_of_lt_of_le hk K.size) (by rw[l.low k (by omega) hn2];exact h0)).trans (K.block k hk hn2)⟩
theorem list_push {w wr w4 w5:World}{rb n0 o q g5 c5 cap4:Nat}{A:Int}{all:List Tk}{st4:Sq}{oR o5:Nat->Nat}{va:Value}{acc:Fs}{xs:List Value}{X:Ex}{ao4:Option Addr}
  (hn0:n0=w.heap.size) (hrn:rb<n0) (K3:Keep rb w wr) (Z3:wr.heap[n0]?=some exZ) (O3:wr.heap[n0+1]?=some (.cells #[.int .i64 25,.int .i64 0,.string ⟨#[]⟩,va,.int .i64 A] 25 (0,0))) (L3:Lb7 rb n0 oR) (fc:Fc wr (N0 n0 oR) acc xs)
  (k4:Keep rb wr.drew w4) (S4:Sl w4 (Nw wr.drew.heap.size) X.kids ao4) (h4:QS w4 rb all o q st4)
  (s5:Step (fun x=>x=2) (w4.alloc (.cells #[.int .i64 X.k,.int .i64 X.n,stv X.nm,.slice ao4 X.kids.len cap4,.int .i64 X.a] 25)) (newLab wr.drew oR 0) w5 o5)
  (r5:Row w5 o5 2 25 5 (.slice (some ⟨g5,0,none⟩) (acc.len+1) c5) (acc.len+1) (xs++[.int .i64 X.k,.int .i64 X.n,stv X.nm,.slice ao4 X.kids.len cap4,.int .i64 X.a])) :
  w5.heap[n0+1]?=some (.cells #[.int .i64 25,.int .i64 0,.string ⟨#[]⟩,va,.int .i64 A] 25 (0,0))/\QS (w5.setCell ⟨n0+1,3,none⟩ (.slice (some ⟨g5,0,none⟩) (acc.len+1) c5)) rb all o q st4/\Keep rb w (w5.setCell ⟨n0+1,3,none⟩ (.slice (some ⟨g5,0,none⟩) (acc.len+1) c5))/\(w5.setCell ⟨n0+1,3,none⟩ (.slice (some ⟨g5,0,none⟩) (acc.len+1) c5)).heap[n0]?=some exZ/\(w5.setCell ⟨n0+1,3,none⟩ (.slice (some ⟨g5,0,none⟩) (acc.len+1) c5)).heap[n0+1]?=some (.cells #[.int .i64 25,.int .i64 0,.string ⟨#[]⟩,.slice (some ⟨g5,0,none⟩) (acc.len+1) c5,.int .i64 A] 25 (0,0))/\AccL (w5.setCell ⟨n0+1,3,none⟩ (.slice (some ⟨g5,0,none⟩) (acc.len+1) c5)) o5 n0 (acc.snoc X) (.slice (some ⟨g5,0,none⟩) (acc.len+1) c5)/\Lb7 rb n0 o5:=by
 have hd:n0+1<wr.heap.size:=lt_of_block O3;have s4:Step (fun x=>x=7) wr oR w4 (newLab wr.drew oR 0):=(Step.refl _ wr oR).drew.trans (k4.lab L3.r);have sA:=allocStep (fun _=>False) w4 (newLab wr.drew oR 0) (.cells #[.int .i64 X.k,.int .i64 X.n,stv X.nm,.slice ao4 X.kids.len cap4,.int .i64 X.a] 25);have O5:Blk w5 o5 1 (n0+1) _:=((Blk.step (⟨O3,L3.b⟩:Blk wr oR 1 (n0+1) _) s4 (by decide)).step sA id).step s5 (by decide);have Z5:Blk w5 o5 3 n0 _:=((Blk.step (⟨Z3,L3.z⟩:Blk wr oR 3 n0 _) s4 (by decide)).step sA id).step s5 (by decide);have L4:=L3.step s4 hrn hd;have hd4:n0+1<w4.heap.size:=Nat.lt_of_lt_of_le hd s4.size;have LA:=L4.step sA hrn hd4;have hdA:n0+1<(w4.alloc (.cells #[.int .i64 X.k,.int .i64 X.n,stv X.nm,.slice ao4 X.kids.len cap4,.int .i64 X.a] 25)).heap.size:=Nat.lt_of_lt_of_le hd4 sA.size;have L5:=LA.step s5 hrn hdA;have hd5:n0+1<w5.heap.size:=Nat.lt_of_lt_of_le hdA s5.size;have s6:=setStep (fun x=>x=1) w5 o5 ⟨n0+1,3,none⟩ (.slice (some ⟨g5,0,none⟩) (acc.len+1) c5) O5.2;have hS:Sl w4 (N0 n0 (newLab wr.drew oR 0)) X.kids ao4:=S4.mono (fun _ _ _=>rfl) (Nat.le_refl _) (fun i hp hl=>⟨by have hp:wr.heap.size<=i:=hp;omega,newLab_new hp⟩);have A5:AccL w5 o5 n0 (acc.snoc X) _:=AccL.push ((fc.lab s4 (by decide)).lab sA id) (hS.lab sA id) s5 r5;have hq:=((h4.alloc (.cells #[.int .i64 X.k,.int .i64 X.n,stv X.nm,.slice ao4 X.kids.len cap4,.int .i64 X.a] 25)).lab s5 LA hrn (by decide) (by decide)).lab s6 L5 hrn (by decide) (by decide);have k1:Keep rb w w4:=K3.trans ((Keep.refl rb wr).drew.trans k4);have kk:=((k1.alloc (.cells #[.int .i64 X.k,.int .i64 X.n,stv X.nm,.slice ao4 X.kids.len cap4,.int .i64 X.a] 25)).lab0 s5 LA hn0.symm (by decide)).lab0 s6 L5 hn0.symm (by decide);exact⟨O5.1,hq,kk,(Z5.step s6 (by decide)).1,(O5.set 3 _).1,A5.step s6 (by decide) (by decide),L5.step s6 hrn hd5⟩
def listR (rec:Rdr)(m o q:Nat)(ts:List Tk):Rs Ex:=(enterT [123] o ts).bind fun a t1=>(memR rec m (o+1) q t1).bind fun ks t2=>(passT [125] t2).bind fun _ t3=>.ok ⟨25,0,[],a,ks⟩ t3
theorem list_bad (a:Int)(acc:Fs)(x:Tk)(r:List Tk)(h:x.t≠[125]):((passT [125] (x::r)).bind fun _ t3=>(.ok ⟨25,0,[],a,acc⟩ t3:Rs Ex))=.bad 120 x.a:=by simp[passT,h,Rs.bind]
theorem QS.nn {w:World}{rb o q:Nat}{all:List Tk}{st:Sq}(h:QS w rb all o q st):∀ ts,st=.inr ts->ts≠[]:=fun ts e=>by subst e;exact h.le.2.2.ne
theorem list_q {rec:Rdr}(R:RecQ rec){w:World}{rb o q m:Nat}{all:List Tk}{x:Tk}{r:List Tk}(hm:m<=1000000)(TI:∀ x,x ∈ all->TokI x)(h:QS w rb all o q (.inr (x::r)))(hn:Nou (listR rec m o q) (.inr (x::r))) :
  Calls Tryz.prog 216 #[.pointer (some ⟨rb,0,none⟩),.int .i64 (x.a:Nat)] w (PostQ rb all o q w (.inr (x::r)) (listR rec m o q)):=by
 have hrb:=h.lt;have CA:=Ctx.start hn;obtain⟨F,hF⟩:∃F,F=listR rec m o q:=⟨_,rfl⟩
 have C0:Ctx F (.inr (x::r)) (fun ts=>(enterT [123] o ts).bind fun a t1=>(memR rec m (o+1) q t1).bind fun ks t2=>(passT [125] t2).bind fun _ t3=>.ok ⟨25,0,[],a,ks⟩ t3) (.inr (x::r)):=by rw[hF];exact CA
 rw[<-hF];clear hF hn CA;obtain⟨K,hK⟩:∃K:Fs->List Tk->Rs Ex,K=fun ks t2=>(passT [125] t2).bind fun _ t3=>.ok ⟨25,0,[],(x.a:Nat),ks⟩ t3:=⟨_,rfl⟩
 have CB:=C0.step (enter_q (o:=o) (x:=x) (r:=r) [123]);have C1:Ctx F (.inr (x::r)) (fun t=>(memR rec m (o+1) q t).bind K) (onw (enterT [123] o) (.inr (x::r))):=by rw[hK];exact CB
 have HK:Hid (K=fun ks t2=>(passT [125] t2).bind fun _ t3=>.ok ⟨25,0,[],(x.a:Nat),ks⟩ t3):=hK;obtain⟨ii,hii,hzi0,hzi1,hzi2⟩:=info_parts infoExpr;obtain⟨w0,hw0⟩:∃w0,w0=(w.alloc exZ).alloc (.cells #[.int .i64 25,.int .i64 0,.string ⟨#[]⟩,.slice none 0 0,.int .i64 (x.a:Nat)] 25):=⟨_,rfl⟩
 have K0:Keep rb w w0:=by rw[hw0];exact((Keep.refl rb w).alloc _).alloc _
 have h0:QS w0 rb all o q (.inr (x::r)):=by rw[hw0];exact(h.alloc exZ).alloc _
 obtain⟨n0,hn0⟩:∃n0,n0=w.heap.size:=⟨_,rfl⟩
 have Z0:w0.heap[n0]?=some exZ:=by
  rw[hw0,hn0];exact(Below.heap_alloc _ _ _ (by simp)).trans (heap_alloc_new w _)
 have O0:w0.heap[n0+1]?=some (.cells #[.int .i64 25,.int .i64 0,.string ⟨#[]⟩,.slice none 0 0,.int .i64 (x.a:Nat)] 25 (0,0)):=by
  rw[hw0,hn0]
  have:=heap_alloc_new (w.alloc exZ) (.cells #[.int .i64 25,.int .i64 0,.string ⟨#[]⟩,.slice none 0 0,.int .i64 (x.a:Nat)] 25)
  simpa using this
 have c1:=bracket_s TI [123] (by decide) (by decide) h0;generalize onw (enterT [123] o) (.inr (x::r))=st1 at *;have hrn:rb<n0:=by omega
 go_enter Tryz.func216,Tryz.ntmps216;go_upto_region 2 with fail;rw[<-hw0,<-hn0];have HN:Hid (n0=w.heap.size):=hn0;clear hw0 h h0 C0 CB hK hn0;go_wp2_with fail;refine c1.mono ?_;rintro e w1 ⟨rfl,h1,k1⟩;clear c1;have Z1:=k1.blk Z0 (by omega);have O1:=k1.blk O0 (by omega);have K1:=K0.trans k1;have c2:=is_s TI [125] (by decide) (by decide) h1;clear Z0 O0 K0 k1;go_wp2_with fail;refine c2.mono ?_;rintro e w2 ⟨rfl,b2⟩;clear c2;have k2:=Keep.ofBelow (rb:=rb) b2;have h2:=h1.below b2;have Z2:=k2.blk Z1 (by omega);have O2:=k2.blk O1 (by omega);have K2:=K1.trans k2;have C2:=mem_start C1 h2.nn;clear Z1 O1 K1 k2 b2 C1 h1;obtain⟨oL,L2⟩:∃oL:Nat->Nat,Lb7 rb n0 oL:=⟨_,lb7_new hrn⟩
 have A2:AccL w2 oL n0 .nil (.slice none 0 0):=⟨[],Row.nil _ _ _ _ _,rfl⟩
 go_wp2_with fail;go_loopg [6] (m+1) (fun g v wr=>∃(en:Bool) (st:Sq) (acc:Fs) (oR:Nat->Nat) (va:Value) (g':Nat),v=.bool en/\Hid (en=true\/(∃ea,st=.inl ea)\/g=g'+1)/\Hid (acc.len+g<=m+1)/\Ctx F (.inr (x::r)) (hdG rec g' (o+1) q K acc en) st/\QS wr rb all (o+1) q st/\Keep rb w wr/\wr.heap[n0]?=some (.cells #[.int .i64 0,.int .i64 0,.string ⟨#[]⟩,.slice none 0 0,.int .i64 0] 25 (0,0))/\wr.heap[n0+1]?=some (.cells #[.int .i64 25,.int .i64 0,.string ⟨#[]⟩,va,.int .i64 (x.a:Nat)] 25 (0,0))/\AccL wr oR n0 acc va/\Hid (Lb7 rb n0 oR))
 case atStart=>exact⟨_,st1,.nil,oL,.slice none 0 0,m,rfl,.inr (.inr rfl),by show 0+(m+1)<=m+1;omega,C2,h2,K2,Z2,O2,A2,L2⟩
 case round =>
  clear C2 h2 K2 Z2 O2 A2 L2;obtain⟨en,st,acc,oR,va,g',rfl,HG,HL,C,h3,K3,Z3,O3,A3,L3⟩:=hrel;have key:(Hid (Ctx F (.inr (x::r)) (fun t=>K acc t) st)/\(en=true\/en=false/\∃er a,st=.inl (er,a)))\/(en=false/\gk=g'+1/\∃y s,st=.inr (y::s)):=by
   cases en with
   | true=>exact .inl ⟨C,.inl rfl⟩
   | false =>
    match st,C,h3,HG with
    | .inl (er,a),C,h3,HG=>exact .inl ⟨ctx_bad C,.inr ⟨rfl,er,a,rfl⟩⟩
    | .inr [],C,h3,HG=>exact absurd rfl (h3.nn [] rfl)
    | .inr (y::s),C,h3,HG =>
     refine .inr ⟨rfl,?_,y,s,rfl⟩;rcases HG.out with h|⟨ea,h⟩|h
     ·cases h
     ·cases h
     ·exact h
  clear HG;rcases key with ⟨HC,hen⟩|⟨rfl,rfl,y,s,rfl⟩
  ·have C4:Ctx F (.inr (x::r)) (fun t=>(passT [125] t).bind fun _ t3=>.ok ⟨25,0,[],(x.a:Nat),acc⟩ t3) st:=by have h9:=HC.out;rw[HK.out] at h9;exact h9
   clear C HC;rcases hen with rfl|⟨rfl,er,a,rfl⟩
   ·have c4:=close_v TI [125] ⟨by decide,by decide⟩ h3;clear h3;go_wp2_with fail;refine c4.mono ?_;rintro e w4 ⟨x4,st4,rfl,h4,k4,Q4⟩;have FIN:=(C4.step Q4).fin;have s4:=k4.lab L3.out.r;have A4:=A3.step s4 (by decide) (by decide);have L4:=L3.out.step s4 hrn (lt_of_block O3);have Z4:=k4.blk Z3 (by omega);have O4:=k4.blk O3 (by omega);have K4:=K3.trans k4;obtain⟨a1,c1,rfl,SL⟩:=A4.sl2 L4.n2;have KE:=K4.set5 (b:=n0) (by have:=HN.out;omega) (.int .i64 25) (.int .i64 0) (stv []) (.slice a1 acc.len c1) (.int .i64 (x.a:Nat));have RE:=h4.set5 (b:=n0) (by omega) (.int .i64 25) (.int .i64 0) (stv []) (.slice a1 acc.len c1) (.int .i64 (x.a:Nat));have ZE:=set5k (.int .i64 25) (.int .i64 0) (stv []) (.slice a1 acc.len c1) (.int .i64 (x.a:Nat)) Z4;have SE:=SL.mono (w':=(((((w4.setCell ⟨n0,0,none⟩ (.int .i64 25)).setCell ⟨n0,1,none⟩ (.int .i64 0)).setCell ⟨n0,2,none⟩ (stv [])).setCell ⟨n0,3,none⟩ (.slice a1 acc.len c1)).setCell ⟨n0,4,none⟩ (.int .i64 (x.a:Nat)))) (Q:=Nw n0) (fun i hp hl=>heap_set5 w4 n0 i (.int .i64 25) (.int .i64 0) (stv []) (.slice a1 acc.len c1) (.int .i64 (x.a:Nat)) (fun ee=>by have h2:=L4.z;rw[<-ee] at h2;rcases hp.2 with h|h<;>omega)) (by simp) (fun i hp _=>hp.1);have HU:Hid (∃wz,wz=(((((w4.setCell ⟨n0,0,none⟩ (.int .i64 25)).setCell ⟨n0,1,none⟩ (.int .i64 0)).setCell ⟨n0,2,none⟩ (stv [])).setCell ⟨n0,3,none⟩ (.slice a1 acc.len c1)).setCell ⟨n0,4,none⟩ (.int .i64 (x.a:Nat)))/\wz.cell? ⟨n0,0,none⟩=some (.int .i64 25)/\wz.cell? ⟨n0,1,none⟩=some (.int .i64 0)/\wz.cell? ⟨n0,2,none⟩=some (stv [])/\wz.cell? ⟨n0,3,none⟩=some (.slice a1 acc.len c1)/\wz.cell? ⟨n0,4,none⟩=some (.int .i64 (x.a:Nat))/\Sl wz (Nw n0) acc a1/\Keep rb w wz/\QS wz rb all o q st4):=by
     obtain⟨u0,u1,u2,u3,u4,-⟩:=box5 ZE;exact⟨_,rfl,u0,u1,u2,u3,u4,SE,KE,RE⟩
    obtain⟨u0,u1,u2,u3,u4,uf⟩:=box5 O4;obtain⟨z0,z1,z2,z3,z4,zf⟩:=box5 Z4;have HF:=Lib.hid FIN;clear KE RE ZE SE c4 C4 Q4 FIN s4 A4 L4 Z4 O4 K4 SL k4 h4 A3 Z3 O3 K3;go_wp2;obtain⟨wz,hwz,v0,v1,v2,v3,v4,SZ,KZ,RZ⟩:=HU.out;clear HU;rw[<-hwz];clear hwz;exact bodyPost_ret (v:=exV ⟨25,0,[],(x.a:Nat),acc⟩ a1 c1) (by simp[results,Tryz.results216,go_sem,v0,v1,v2,v3,v4,exV]) rfl ⟨_,_,_,_,rfl,by rw[<-HN.out];exact SZ,RZ,KZ,HF.out⟩
   ·obtain⟨hb,d4,-⟩:=h3.bad;have c4:=close_v TI [125] ⟨by decide,by decide⟩ h3;clear h3;go_wp2_with fail;refine c4.mono ?_;rintro e w4 ⟨x4,st4,rfl,h4,k4,Q4⟩;have FIN:=(C4.step Q4).fin;have s4:=k4.lab L3.out.r;have A4:=A3.step s4 (by decide) (by decide);have L4:=L3.out.step s4 hrn (lt_of_block O3);clear d4 hb;have Z4:=k4.blk Z3 (by omega);have O4:=k4.blk O3 (by omega);have K4:=K3.trans k4;obtain⟨a1,c1,rfl,SL⟩:=A4.sl2 L4.n2;have KE:=K4.set5 (b:=n0) (by have:=HN.out;omega) (.int .i64 25) (.int .i64 0) (stv []) (.slice a1 acc.len c1) (.int .i64 (x.a:Nat));have RE:=h4.set5 (b:=n0) (by omega) (.int .i64 25) (.int .i64 0) (stv []) (.slice a1 acc.len c1) (.int .i64 (x.a:Nat));have ZE:=set5k (.int .i64 25) (.int .i64 0) (stv []) (.slice a1 acc.len c1) (.int .i64 (x.a:Nat)) Z4;have SE:=SL.mono (w':=(((((w4.setCell ⟨n0,0,none⟩ (.int .i64 25)).setCell ⟨n0,1,none⟩ (.int .i64 0)).setCell ⟨n0,2,none⟩ (stv [])).setCell ⟨n0,3,none⟩ (.slice a1 acc.len c1)).setCell ⟨n0,4,none⟩ (.int .i64 (x.a:Nat)))) (Q:=Nw n0) (fun i hp hl=>heap_set5 w4 n0 i (.int .i64 25) (.int .i64 0) (stv []) (.slice a1 acc.len c1) (.int .i64 (x.a:Nat)) (fun ee=>by have h2:=L4.z;rw[<-ee] at h2;rcases hp.2 with h|h<;>omega)) (by simp) (fun i hp _=>hp.1);have HU:Hid (∃wz,wz=(((((w4.setCell ⟨n0,0,none⟩ (.int .i64 25)).setCell ⟨n0,1,none⟩ (.int .i64 0)).setCell ⟨n0,2,none⟩ (stv [])).setCell ⟨n0,3,none⟩ (.slice a1 acc.len c1)).setCell ⟨n0,4,none⟩ (.int .i64 (x.a:Nat)))/\wz.cell? ⟨n0,0,none⟩=some (.int .i64 25)/\wz.cell? ⟨n0,1,none⟩=some (.int .i64 0)/\wz.cell? ⟨n0,2,none⟩=some (stv [])/\wz.cell? ⟨n0,3,none⟩=some (.slice a1 acc.len c1)/\wz.cell? ⟨n0,4,none⟩=some (.int .i64 (x.a:Nat))/\Sl wz (Nw n0) acc a1/\Keep rb w wz/\QS wz rb all o q st4):=by
     obtain⟨u0,u1,u2,u3,u4,-⟩:=box5 ZE;exact⟨_,rfl,u0,u1,u2,u3,u4,SE,KE,RE⟩
    obtain⟨u0,u1,u2,u3,u4,uf⟩:=box5 O4;obtain⟨z0,z1,z2,z3,z4,zf⟩:=box5 Z4;have HF:=Lib.hid FIN;clear KE RE ZE SE c4 C4 Q4 FIN s4 A4 L4 Z4 O4 K4 SL k4 h4 A3 Z3 O3 K3;go_wp2;obtain⟨wz,hwz,v0,v1,v2,v3,v4,SZ,KZ,RZ⟩:=HU.out;clear HU;rw[<-hwz];clear hwz;exact bodyPost_ret (v:=exV ⟨25,0,[],(x.a:Nat),acc⟩ a1 c1) (by simp[results,Tryz.results216,go_sem,v0,v1,v2,v3,v4,exV]) rfl ⟨_,_,_,_,rfl,by rw[<-HN.out];exact SZ,RZ,KZ,HF.out⟩
  ·have e0:=h3.e0;have C4:Ctx F (.inr (x::r)) (fun t=>(rec 1 (o+1) q t).bind fun e t1=>(memL rec g' (o+1) q (acc.snoc e) t1).bind K) (.inr (y::s)):=C;clear C;have hlen:acc.len<=1000000:=by have:=HL.out;omega
   obtain⟨xs,rw3,fc3⟩:=A3;have hd:QS wr.drew rb all (o+1) q (.inr (y::s)):=h3.below (Below.refl _ _).drew;have c5:=R wr.drew rb all 1 (o+1) q _ TI (by omega) (by omega) hd C4.nou;have b1:acc.len+1<=maxLen:=by unfold maxLen;omega
   have b2:(acc.len+1)*64<=140737488355328:=by omega
   have HCN:Hid (∀ X st5,Qd (rec 1 (o+1) q) (.inr (y::s)) X st5->Ctx F (.inr (x::r)) (fun t1=>(memL rec g' (o+1) q (acc.snoc X) t1).bind K) st5):=fun X st5 Q=>C4.step Q;go_upto_region 5 with fail;go_cut [28] (fun v wx=>∃(X:Ex) (st5:Sq) (o5:Nat->Nat) (v5:Value),Ctx F (.inr (x::r)) (fun t1=>(memL rec g' (o+1) q (acc.snoc X) t1).bind K) st5/\QS wx rb all (o+1) q st5/\Keep rb w wx/\wx.heap[n0]?=some (.cells #[.int .i64 0,.int .i64 0,.string ⟨#[]⟩,.slice none 0 0,.int .i64 0] 25 (0,0))/\wx.heap[n0+1]?=some (.cells #[.int .i64 25,.int .i64 0,.string ⟨#[]⟩,v5,.int .i64 (x.a:Nat)] 25 (0,0))/\AccL wx o5 n0 (acc.snoc X) v5/\Lb7 rb n0 o5)
   case first =>
    obtain⟨p0,p1,p2,p3,p4,pf⟩:=box5 O3;have hp0:n0+1<wr.heap.size:=lt_of_block O3;go_region_law (first|(go_simp;go_at_call 31;refine c5.mono ?_;rintro e w5 ⟨x5,ao5,cap5,st5,rfl,S5,h5,k5,Q5⟩;have O5:=k5.blk (show wr.drew.heap[n0+1]?=_ from O3) (by omega);have hp5:n0+1<w5.heap.size:=lt_of_block O5;obtain⟨e0,e1,e2,e3,e4,ef⟩:=box5 O5;rw[exV_out])|(refine step_append_lab rfl (.tmp 23) (.tmp 26) 23 rfl 25 ii _ 5 64 Tryz.underlying23 hii hzi0 hzi1 hzi2 rfl (by decide) (newLab wr.drew oR 0) 2 va acc.len xs (by simp[Act.eval]) ((rw3.step ((Step.refl (fun x=>x=7) wr oR).drew.trans (k5.lab L3.out.r)) (by decide)).step (allocStep (fun _=>False) w5 _ _) id) ⟨w5.heap.size,0,none⟩ 1 1 [.int .i64 x5.k,.int .i64 x5.n,stv x5.nm,.slice ao5 x5.kids.len cap5,.int .i64 x5.a] (by simp[Act.eval]) rfl (new_cells_at w5 _ _) (by intro u hu;simp at hu;rcases hu with rfl|rfl|rfl|rfl|rfl<;>rfl) (by decide) b1 b2 ?_;intro g6 c6 w6 o6 r6 s6;have FX:=list_push HN.out hrn K3 Z3 O3 L3.out fc3 k5 S5 h5 s6 r6;obtain⟨f0,f1,f2,f3,f4,ff⟩:=box5 FX.1))
    all_goals
     go_wp2;go_meet;exact⟨x5,st5,o6,_,HCN.out _ _ Q5,FX.2.1,FX.2.2.1,FX.2.2.2.1,FX.2.2.2.2.1,FX.2.2.2.2.2.1,FX.2.2.2.2.2.2⟩
   case rest =>
   obtain⟨X,st5,o5,v5,C5,h5,K5,Z5,O5,A5,L5⟩:=hcut;clear e0 C4 rw3 fc3 hd c5 b1 b2 HCN h3 K3 Z3 O3 L3 xs;have HA:Hid ((acc.snoc X).len+g'<=m+1):=by show _<=_;rw[Fs.len_snoc];have:=HL.out;omega
   have c6:=is_s TI [125] (by decide) (by decide) h5;go_wp2_with fail;refine c6.mono ?_;rintro e w6 ⟨rfl,b6⟩;have k6:=Keep.ofBelow (rb:=rb) b6;have h6:=h5.below b6;have s6:=k6.lab L5.r;have A6:=A5.step s6 (by decide) (by decide);have L6:=L5.step s6 hrn (lt_of_block O5);have Z6:=k6.blk Z5 (by omega);have O6:=k6.blk O5 (by omega);have K6:=K5.trans k6;have hne:=h5.nn;clear c6 b6 k6 s6 A5 L5 Z5 O5 K5 h5;cases hb:isS [125] st5 with
   | true =>
    have C6:=mem_end C5 hb;clear C5 hb hne;go_wp2
    go_roundg g'
    case rel=>(try ((repeat apply Exists.intro);refine⟨?_,rfl⟩));exact⟨true,st5,acc.snoc X,_,v5,0,rfl,.inl rfl,HA,C6,h6,K6,Z6,O6,A6,L6⟩
    all_goals omega
   | false =>
    obtain⟨g2,C7,hg2⟩:=mem_comma C5 (fun x r hx=>by rw[HK.out];exact list_bad _ _ _ _ hx) hb hne;have c7:=take_s TI [44] (by decide) (by decide) h6;have HG:Hid (false=true\/(∃ea,onw (passT [44]) st5=.inl ea)\/g'=g2+1):=.inr (hg2.elim (fun h=>.inr h) (fun h=>.inl h));generalize onw (passT [44]) st5=st7 at *;clear C5 hb hne hg2 h6;go_wp2_with fail;refine c7.mono ?_;rintro e w7 ⟨rfl,h7,k7⟩;have s7:=k7.lab L6.r;have A7:=A6.step s7 (by decide) (by decide);have L7:=L6.step s7 hrn (lt_of_block O6);have Z7:=k7.blk Z6 (by omega);have O7:=k7.blk O6 (by omega);have K7:=K6.trans k7;clear c7 k7 s7 A6 L6 Z6 O6 K6;go_wp2
    go_roundg g'
    case rel=>(try ((repeat apply Exists.intro);refine⟨?_,rfl⟩));exact⟨false,st7,acc.snoc X,_,v5,g2,rfl,HG,HA,C7,h7,K7,Z7,O7,A7,L7⟩
    all_goals omega
end Go.Proofs.YtaihhnlfcndecaaGreatDoor
