import Derived.Test.YtaihhnlfcndecaaGreatDoorRdqJ
set_option maxRecDepth 100000
set_option maxHeartbeats 8000000
namespace Go.Proofs.YtaihhnlfcndecaaGreatDoor
open Go.ChangeShapes Go.WideShapes Go.ChangeAt Go.RowKit
set_option linter.unusedVariables false
set_option linter.unusedSimpArgs false
theorem QS.bad {w:World}{rb o q er a:Nat}{all:List Tk}(h:QS w rb all o q (.inl (er,a))):((er:Int)==0)=false/\w.cell? ⟨rb,4,none⟩=some (.int .i64 (er:Nat))/\(∀ o' q':Nat,QS w rb all o' q' (.inl (er,a))):=by
 obtain ⟨i,o',q',h1,h2,h3⟩:=h;obtain ⟨_,_,_,_,_,_,_,_,_,_,_,c4,_,hf0⟩:=h1.next (List.getElem?_eq_getElem h2);exact ⟨by simp;omega,c4,fun _ _=>⟨i,o',q',h1,h2,h3⟩⟩
theorem Qd.bad {α:Type}(f:List Tk->Rs α)(ea:Nat × Nat)(X:α):Qd f (.inl ea) X (.inl ea):=⟨rfl,fun ts y t hs=>by cases hs⟩
theorem row_bad {w:World}{rb o q row er a:Nat}{all:List Tk}(f:List Tk->Rs Ex)(h:QS w rb all o q (.inl (er,a))) :
  Calls Tryz.prog 31 #[.pointer (some ⟨rb,0,none⟩),.int .i64 (row:Nat)] w (PostQ rb all o q w (.inl (er,a)) f):=by
 have hrb:=h.lt;have h0:=h.alloc exZ;have K0:Keep rb w (w.alloc exZ):=(Keep.refl rb w).alloc _;have Z0:(w.alloc exZ).heap[w.heap.size]?=some exZ:=heap_alloc_new w _;obtain ⟨hb,c4,-⟩:=h0.bad;have hb2:((er:Int) != 0)=true:=by rw[_root_.bne,hb];rfl
 have FIN:Hid (∀ wx st',(QS wx rb all o q st'/\Keep rb w wx/\st'=.inl (er,a))->PostQ rb all o q w (.inl (er,a)) f (.returned (exV noEx none 0)) wx):=fun wx st' hh=>⟨noEx,none,0,st',rfl,Sl.nil _ _ _,hh.1,hh.2.1,by rw[hh.2.2];exact Qd.bad f _ _⟩
 obtain ⟨z0,z1,z2,z3,z4,zf⟩:=box5 Z0;go_enter Tryz.func31,Tryz.ntmps31;go_wp2;exact bodyPost_ret (v:=exV noEx none 0) (by simp[results,Tryz.results31,go_sem,exV,noEx,Fs.len]) rfl (FIN.out _ _ ⟨h0,K0,rfl⟩)
theorem QS.e0 {w:World}{rb o q:Nat}{all:List Tk}{ts:List Tk}(h:QS w rb all o q (.inr ts)):w.cell? ⟨rb,4,none⟩=some (.int .i64 0):=by
 match ts,h with
 | [],h=>exact absurd rfl h.le.2.2.ne
 | x::r,h =>
  obtain ⟨i,g,cap,L,hg,hi,hcL,hcap,hL,hm,d0,d1,d2,d3,d4,-⟩:=h.ok;exact d4
theorem row_3 {rec:Rdr}(R:RecQ rec){w:World}{rb o q:Nat}{all:List Tk}{x:Tk}{r:List Tk}(TI:∀ x,x ∈ all->TokI x)(h:QS w rb all o q (.inr (x::r)))(hn:Nou (prefR rec [110,111,116] 7 3 o q) (.inr (x::r))) :
  Calls Tryz.prog 31 #[.pointer (some ⟨rb,0,none⟩),.int .i64 3] w (PostQ rb all o q w (.inr (x::r)) (prefR rec [110,111,116] 7 3 o q)):=by
 have hrb:=h.lt;have K0:Keep rb w (w.alloc exZ):=(Keep.refl rb w).alloc _;have Z0:(w.alloc exZ).heap[w.heap.size]?=some exZ:=heap_alloc_new w _;have h0:=h.alloc exZ;have d4:=h0.e0;have hs1:w.heap.size<(w.alloc exZ).heap.size:=by simp
 have c1:=not_q R TI h0 hn;clear hn;go_enter Tryz.func31,Tryz.ntmps31;go_wp2_with fail;refine c1.mono ?_;rintro e w1 ⟨x1,ao1,cap1,st1,rfl,S1,h1,k1,Q1⟩;clear c1 h0 d4;have S1a:=S1.low (show (w.heap.size+1)<=_ from (by omega))
 clear S1;have Z1:=k1.blk Z0 (by have:=K0.size;omega)
 have K1:=K0.trans k1;clear K0 Z0;have KE:=K1.set5 (b:=w.heap.size) (by omega) (.int .i64 x1.k) (.int .i64 x1.n) (stv x1.nm) (.slice ao1 x1.kids.len cap1) (.int .i64 x1.a)
 have RE:=h1.set5 (b:=w.heap.size) (by omega) (.int .i64 x1.k) (.int .i64 x1.n) (stv x1.nm) (.slice ao1 x1.kids.len cap1) (.int .i64 x1.a)
 have ZE:=set5k (.int .i64 x1.k) (.int .i64 x1.n) (stv x1.nm) (.slice ao1 x1.kids.len cap1) (.int .i64 x1.a) Z1;have SE:Sl _ (Nw w.heap.size) _ _:=(S1a.set5 (b:=w.heap.size) (by omega) (.int .i64 x1.k) (.int .i64 x1.n) (stv x1.nm) (.slice ao1 x1.kids.len cap1) (.int .i64 x1.a)).low (by omega)
 obtain ⟨z0,z1,z2,z3,z4,zf⟩:=box5 Z1;obtain ⟨u0,u1,u2,u3,u4,-⟩:=box5 ZE;have FIN:=Q1;clear ZE K1 Z1 h1 S1a;rw[exV_out];go_wp2;exact bodyPost_ret (v:=exV x1 ao1 cap1) (by simp[results,Tryz.results31,go_sem,u0,u1,u2,u3,u4,exV]) rfl ⟨_,_,_,_,rfl,SE,RE,KE,FIN⟩
theorem row_7 {rec:Rdr}(R:RecQ rec)(RA:AtmQ rec){w:World}{rb o q:Nat}{all:List Tk}{x:Tk}{r:List Tk}(TI:∀ x,x ∈ all->TokI x)(h:QS w rb all o q (.inr (x::r)))(hn:Nou (prefR rec [45] 6 7 o q) (.inr (x::r))) :
  Calls Tryz.prog 31 #[.pointer (some ⟨rb,0,none⟩),.int .i64 7] w (PostQ rb all o q w (.inr (x::r)) (prefR rec [45] 6 7 o q)):=by
 have hrb:=h.lt;have K0:Keep rb w (w.alloc exZ):=(Keep.refl rb w).alloc _;have Z0:(w.alloc exZ).heap[w.heap.size]?=some exZ:=heap_alloc_new w _;have h0:=h.alloc exZ;have d4:=h0.e0;have hs1:w.heap.size<(w.alloc exZ).heap.size:=by simp
 have c1:=unary_q R RA TI h0 hn;clear hn;go_enter Tryz.func31,Tryz.ntmps31;go_wp2_with fail;refine c1.mono ?_;rintro e w1 ⟨x1,ao1,cap1,st1,rfl,S1,h1,k1,Q1⟩;clear c1 h0 d4;have S1a:=S1.low (show (w.heap.size+1)<=_ from (by omega))
 clear S1;have Z1:=k1.blk Z0 (by have:=K0.size;omega)
 have K1:=K0.trans k1;clear K0 Z0;have KE:=K1.set5 (b:=w.heap.size) (by omega) (.int .i64 x1.k) (.int .i64 x1.n) (stv x1.nm) (.slice ao1 x1.kids.len cap1) (.int .i64 x1.a)
 have RE:=h1.set5 (b:=w.heap.size) (by omega) (.int .i64 x1.k) (.int .i64 x1.n) (stv x1.nm) (.slice ao1 x1.kids.len cap1) (.int .i64 x1.a)
 have ZE:=set5k (.int .i64 x1.k) (.int .i64 x1.n) (stv x1.nm) (.slice ao1 x1.kids.len cap1) (.int .i64 x1.a) Z1;have SE:Sl _ (Nw w.heap.size) _ _:=(S1a.set5 (b:=w.heap.size) (by omega) (.int .i64 x1.k) (.int .i64 x1.n) (stv x1.nm) (.slice ao1 x1.kids.len cap1) (.int .i64 x1.a)).low (by omega)
 obtain ⟨z0,z1,z2,z3,z4,zf⟩:=box5 Z1;obtain ⟨u0,u1,u2,u3,u4,-⟩:=box5 ZE;have FIN:=Q1;clear ZE K1 Z1 h1 S1a;rw[exV_out];go_wp2;exact bodyPost_ret (v:=exV x1 ao1 cap1) (by simp[results,Tryz.results31,go_sem,u0,u1,u2,u3,u4,exV]) rfl ⟨_,_,_,_,rfl,SE,RE,KE,FIN⟩
theorem Ctx.eat {β:Type}{F:List Tk->Rs β}{st0:Sq}{G H:List Tk->Rs β}{x:Tk}{r:List Tk}(h:Ctx F st0 G (.inr (x::r)))(e:G (x::r)=H r):Ctx F st0 H (.inr r):=by
 refine ⟨fun ts hs e2=>h.1 (x::r) rfl (by cases hs;rw[e];exact e2),fun X st' q=>h.2 X st' ⟨?_,?_⟩⟩
 ·rw[q.1];simp only[onw];rw[e]
 ·intro ts y t hs hy;cases hs;exact q.2 r y t rfl (by rw[<-e];exact hy)
theorem Ctx.congr {β:Type}{F:List Tk->Rs β}{st0 st:Sq}{G H:List Tk->Rs β}(h:Ctx F st0 G st)(e:∀ ts,st=.inr ts->G ts=H ts):Ctx F st0 H st:=⟨h.1.congr e,fun X st' q=>h.2 X st' (q.congr fun ts hs=>(e ts hs).symm)⟩
theorem op_none {row:Nat}(hr:row=1\/row=2\/row=4\/row=5\/row=6){x:Tk}{r:List Tk}(h:opAt x.t row=none):amgI (sgW row) (.inr (x::r))=-1:=by
 have hn:∀ s,s ∈ sgW row->¬x.t=s:=fun s hs e=>by
  rw[e] at h;rcases hr with rfl|rfl|rfl|rfl|rfl <;> simp only[sgW,List.mem_cons,List.not_mem_nil,or_false] at hs
  all_goals (rcases hs with rfl|rfl|rfl|rfl) <;> revert h <;> decide
 exact amg_no fun j t hj ht=>by
  have:=hn t (List.mem_of_getElem? ht)
  simpa [isS] using this
theorem op_some {row:Nat}(hr:row=1\/row=2\/row=4\/row=5\/row=6){x:Tk}{r:List Tk}{z:List UInt8 × Nat × Nat × Nat × Nat}(h:opAt x.t row=some z) :
  ∃i k:Nat,amgI (sgW row) (.inr (x::r))=(i:Nat)/\(sgK row)[i]?=some k/\i<(sgW row).length/\z.2.1=k/\z.2.2.2.2=row+1/\(row<z.2.2.2.1 ↔ row=4)/\x.t≠[]:=by
 have hz:z ∈ opsL:=List.mem_of_find?_eq_some h;have hp:=List.find?_some h;simp only[Bool.and_eq_true,beq_iff_eq] at hp;obtain ⟨h1,h2⟩:=hp;simp only[opsL,List.mem_cons,List.not_mem_nil,or_false] at hz;have key:∀ (L:List (List UInt8)) (i:Nat),L[i]?=some x.t->(∀ j t,j<i->L[j]?=some t->t≠x.t)->amgI L (.inr (x::r))=(i:Nat):=fun L i hi hj=>amg_yes hi (by simp[isS]) fun j t hl ht=>by
  have:=hj j t hl ht
  simp only[isS,beq_eq_false_iff_ne];exact fun e=>this e.symm
 rcases hz with rfl|rfl|rfl|rfl|rfl|rfl|rfl|rfl|rfl|rfl|rfl <;> simp only at h1 h2 <;> subst h2
 ·exact ⟨0,18,key _ 0 (by rw[<-h1];rfl) (by omega),rfl,by decide,rfl,rfl,by decide,by rw[<-h1];decide⟩
 ·exact ⟨0,17,key _ 0 (by rw[<-h1];rfl) (by omega),rfl,by decide,rfl,rfl,by decide,by rw[<-h1];decide⟩
 ·exact ⟨0,13,key _ 0 (by rw[<-h1];rfl) (by omega),rfl,by decide,rfl,rfl,by decide,by rw[<-h1];decide⟩
 ·exact ⟨1,14,key _ 1 (by rw[<-h1];rfl) (fun j t hj ht=>by rw[<-h1];(obtain rfl:j=0:=by omega);simp[sgW] at ht;subst ht;decide),rfl,by decide,rfl,rfl,by decide,by rw[<-h1];decide⟩
 ·exact ⟨3,15,key _ 3 (by rw[<-h1];rfl) (fun j t hj ht=>by rw[<-h1];(obtain rfl|rfl|rfl:j=0\/j=1\/j=2:=by omega) <;> simp[sgW] at ht <;> subst ht <;> decide),rfl,by decide,rfl,rfl,by decide,by rw[<-h1];decide⟩
 ·exact ⟨2,16,key _ 2 (by rw[<-h1];rfl) (fun j t hj ht=>by rw[<-h1];(obtain rfl|rfl:j=0\/j=1:=by omega) <;> simp[sgW] at ht <;> subst ht <;> decide),rfl,by decide,rfl,rfl,by decide,by rw[<-h1];decide⟩
 ·exact ⟨0,8,key _ 0 (by rw[<-h1];rfl) (by omega),rfl,by decide,rfl,rfl,by decide,by rw[<-h1];decide⟩
 ·exact ⟨1,9,key _ 1 (by rw[<-h1];rfl) (fun j t hj ht=>by rw[<-h1];(obtain rfl:j=0:=by omega);simp[sgW] at ht;subst ht;decide),rfl,by decide,rfl,rfl,by decide,by rw[<-h1];decide⟩
 ·exact ⟨0,10,key _ 0 (by rw[<-h1];rfl) (by omega),rfl,by decide,rfl,rfl,by decide,by rw[<-h1];decide⟩
 ·exact ⟨1,11,key _ 1 (by rw[<-h1];rfl) (fun j t hj ht=>by rw[<-h1];(obtain rfl:j=0:=by omega);simp[sgW] at ht;subst ht;decide),rfl,by decide,rfl,rfl,by decide,by rw[<-h1];decide⟩
 ·exact ⟨2,12,key _ 2 (by rw[<-h1];rfl) (fun j t hj ht=>by rw[<-h1];(obtain rfl|rfl:j=0\/j=1:=by omega) <;> simp[sgW] at ht <;> subst ht <;> decide),rfl,by decide,rfl,rfl,by decide,by rw[<-h1];decide⟩
theorem amg_bad (L:List (List UInt8))(ea:Nat × Nat):amgI L (.inl ea)=-1:=amg_no fun _ _ _ _=>rfl
theorem sg_ok {row:Nat}(hr:row=1\/row=2\/row=4\/row=5\/row=6):(∀ s,s ∈ sgW row->s≠[]/\nameB s=false)/\(sgW row).length<=4:=by
 rcases hr with rfl|rfl|rfl|rfl|rfl <;> exact ⟨by decide,by decide⟩
theorem blk5 {w:World}{b k:Nat}(hk:k≠b)(b0 b1 b2 b3 b4:Value):(((((w.setCell ⟨b,0,none⟩ b0).setCell ⟨b,1,none⟩ b1).setCell ⟨b,2,none⟩ b2).setCell ⟨b,3,none⟩ b3).setCell ⟨b,4,none⟩ b4).heap[k]?=w.heap[k]?:=by
 rw[heap_setCell_other _ ⟨b,4,none⟩ k _ hk,heap_setCell_other _ ⟨b,3,none⟩ k _ hk,heap_setCell_other _ ⟨b,2,none⟩ k _ hk,heap_setCell_other _ ⟨b,1,none⟩ k _ hk,heap_setCell_other _ ⟨b,0,none⟩ k _ hk]
theorem row_c {rec:Rdr}(R:RecQ rec){w:World}{rb o q m row:Nat}{all:List Tk}{ts:List Tk}(hr:row=1\/row=2\/row=4\/row=5\/row=6)(TI:∀ x,x ∈ all->TokI x)(h:QS w rb all o q (.inr ts))(hn:Nou (fun ts=>(rec (row+1) o q ts).bind fun l t=>chainL rec m row o q l t) (.inr ts)) :
  Calls Tryz.prog 31 #[.pointer (some ⟨rb,0,none⟩),.int .i64 (row:Nat)] w (PostQ rb all o q w (.inr ts) (fun ts=>(rec (row+1) o q ts).bind fun l t=>chainL rec m row o q l t)):=by
 have hrb:=h.lt;obtain ⟨F,hF⟩:∃F,F=(fun ts=>(rec (row+1) o q ts).bind fun l t=>chainL rec m row o q l t):=⟨_,rfl⟩
 have C00:=Ctx.start hn;rw[<-hF];have C0:Ctx F (.inr ts) (fun ts=>(rec (row+1) o q ts).bind fun l t=>chainL rec m row o q l t) (.inr ts):=by rw[hF];exact C00
 clear hF hn C00;have K0:Keep rb w (w.alloc exZ):=(Keep.refl rb w).alloc _;have Z0:(w.alloc exZ).heap[w.heap.size]?=some exZ:=heap_alloc_new w _;have h0:=h.alloc exZ;have d4:=h0.e0;have hs1:w.heap.size<(w.alloc exZ).heap.size:=by simp
 have r3:((row:Int)==3)=false:=by rcases hr with rfl|rfl|rfl|rfl|rfl <;> rfl
 have r7:((row:Int)==7)=false:=by rcases hr with rfl|rfl|rfl|rfl|rfl <;> rfl
 have r8:1<=row+1/\row+1<=7:=by omega
 obtain ⟨n,hnL⟩:∃n,n=(sgW row).length:=⟨_,rfl⟩;have c1:=signs_s (w.alloc exZ) row n hr hnL;have HN:Hid (n=(sgW row).length):=hnL;have HR:Hid (row=1\/row=2\/row=4\/row=5\/row=6):=hr;clear hnL hr;go_enter Tryz.func31,Tryz.ntmps31;go_wp2_with fail;refine c1.mono ?_;rintro e w1 ⟨g1,g2,rfl,sg⟩;have k1:=Keep.ofBelow (rb:=rb) sg.1.1;have h1:=h0.below sg.1.1;have SG:Hid (g1<w1.heap.size/\g2<w1.heap.size/\rb<g1/\rb<g2/\(∀ j s,(sgW row)[j]?=some s->w1.cell? ⟨g1,j,none⟩=some (stv s))/\∀ j k,(sgK row)[j]?=some k->w1.cell? ⟨g2,j,none⟩=some (.int .i64 (k:Nat))):=⟨sg.1.2.2.1,sg.2.2.1,by have:=sg.1.2.1;omega,by have:=sg.2.1;omega,sg.1.2.2.2,sg.2.2.2⟩
 have Z1:=k1.blk Z0 (by omega)
 have K1:=K0.trans k1;have hz1:w.heap.size<w1.heap.size:=lt_of_block Z1;have c2:=R w1 rb all (row+1) o q _ TI r8.1 r8.2 h1 C0.nou;rw[show ((row+1:Nat):Int)=(row:Int)+1 by omega] at c2
 clear c1 sg k1 h0 d4 hs1 K0 Z0;have hrw:(row:Int)<=7:=by omega
 go_wp2_with fail;refine c2.mono ?_;rintro e w2 ⟨x2,ao2,cap2,st2,rfl,S2,h2,k2,Q2⟩;have C2:=C0.step Q2;have Z2:=k2.blk Z1 (by omega)
 have K2:=K1.trans k2;have S2a:=S2.low (show w.heap.size+1<=w1.heap.size by omega)
 have hz2:w.heap.size<w2.heap.size:=lt_of_block Z2;have h3:=h2.alloc (bxE x2 ao2 cap2);have K3:=K2.alloc (bxE x2 ao2 cap2);have k3:Keep rb w1 (w2.alloc (bxE x2 ao2 cap2)):=k2.alloc _;have Z3:=(Below.heap_alloc w2 (bxE x2 ao2 cap2) _ (lt_of_block Z2)).trans Z2;have L3:(w2.alloc (bxE x2 ao2 cap2)).heap[w2.heap.size]?=some (bxE x2 ao2 cap2):=heap_alloc_new w2 _;have S3:=(S2a.toB' (Nat.le_refl _)).allocB (bxE x2 ao2 cap2);obtain ⟨bl,hbl⟩:∃bl,bl=w2.heap.size:=⟨_,rfl⟩;rw[<-hbl] at S3 L3 hz2;have HBL:Hid (bl=w2.heap.size):=hbl;have hg1:g1<(w2.alloc (bxE x2 ao2 cap2)).heap.size:=by have:=SG.out.1;have:=k3.size;omega
 have c3:=among_s TI (sgW row) (sg_ok HR.out).1 h3 HN.out hg1 (fun j s hj=>(k3.cell SG.out.1 (by have:=SG.out.2.2.1;omega) j).trans (SG.out.2.2.2.2.1 j s hj)) (Nat.le_refl n) (by have:=(sg_ok HR.out).2;have:=HN.out;unfold maxLen;omega)
 have hw1:w1.heap.size<=bl:=by rw[hbl];exact k2.size
 clear c2 Q2 C0 K1 Z1 S2 S2a h1 h2 k2 Z2 K2 hbl hg1 hz1;rw[exV_out];go_wp2_with fail;refine c3.mono ?_;rintro e w4 ⟨rfl,b4⟩;rw[<-HBL.out];clear c3 HBL;have k4:=Keep.ofBelow (rb:=rb) b4;have h4:=h3.below b4;have Z4:=k4.blk Z3 (by omega)
 have L4:=k4.blk L3 (by omega)
 have S4:=S3.keepB k4 (by omega)
 have K4:=K3.trans k4;have KS4:=k3.trans k4;clear k4 b4 k3 h3 Z3 L3 S3 K3;go_wp2_with fail
 go_loopg [8] m (fun g v wr=>∃st left ao cap,v=.int .i64 (amgI (sgW row) st)/\Ctx F (.inr ts) (fun t=>chainL rec g row o q left t) st/\wr.heap[bl]?=some (.cells #[.int .i64 left.k,.int .i64 left.n,stv left.nm,.slice ao left.kids.len cap,.int .i64 left.a] 25 (0,0))/\Sl wr (Nb (w.heap.size+1) bl) left.kids ao/\QS wr rb all o q st/\Keep rb w wr/\Keep rb w1 wr/\wr.heap[w.heap.size]?=some (.cells #[.int .i64 0,.int .i64 0,.string ⟨#[]⟩,.slice none 0 0,.int .i64 0] 25 (0,0)))
 case atStart=>exact ⟨st2,x2,ao2,cap2,rfl,C2,L4,S4,h4,K4,KS4,Z4⟩
 case round =>
  clear C2 L4 S4 h4 K4 KS4 Z4;obtain ⟨st,left,ao,cap,rfl,C,L5,S5,h5,K5,KS5,Z5⟩:=hrel;have key:Hid (amgI (sgW row) st=-1/\Qd F (.inr ts) left st)\/∃x r g' z,gk=g'+1/\st=.inr (x::r)/\opAt x.t row=some z:=by
   match st,C,h5 with
   | .inl ea,C,h5=>exact .inl ⟨amg_bad _ _,C.2 _ _ (Qd.bad _ _ _)⟩
   | .inr [],C,h5=>exact absurd rfl h5.le.2.2.ne
   | .inr (x::r),C,h5 =>
    cases gk with
    | zero=>exact absurd rfl (C.1 _ rfl)
    | succ g' =>
     cases hz:opAt x.t row with
     | none =>
      refine .inl ⟨op_none HR.out hz,C.2 _ _ ⟨?_,?_⟩⟩
      ·simp only[onw,chainL,hz,stp]
      ·intro ts y t hs hy;cases hs;simp only[chainL,hz] at hy;exact (Rs.ok_inj hy).1
     | some z=>exact .inr ⟨x,r,g',z,rfl,rfl,hz⟩
  rcases key with FIN|⟨x,r,g',z,rfl,rfl,hz⟩
  ·obtain ⟨hk,FIN⟩:=FIN.out;have HF:Hid (Qd F (.inr ts) left st):=FIN;rw[hk];have KE:=K5.set5 (b:=w.heap.size) (by omega) (.int .i64 left.k) (.int .i64 left.n) (stv left.nm) (.slice ao left.kids.len cap) (.int .i64 left.a)
   have RE:=h5.set5 (b:=w.heap.size) (by omega) (.int .i64 left.k) (.int .i64 left.n) (stv left.nm) (.slice ao left.kids.len cap) (.int .i64 left.a)
   have ZE:=set5k (.int .i64 left.k) (.int .i64 left.n) (stv left.nm) (.slice ao left.kids.len cap) (.int .i64 left.a) Z5;have SE:Sl _ (Nw w.heap.size) _ _:=(S5.set5B (b:=w.heap.size) (.inr (by omega)) (.int .i64 left.k) (.int .i64 left.n) (stv left.nm) (.slice ao left.kids.len cap) (.int .i64 left.a)).lowB (by omega)
   obtain ⟨z0,z1,z2,z3,z4,zf⟩:=box5 Z5;obtain ⟨v0,v1,v2,v3,v4,vf⟩:=box5 L5;obtain ⟨u0,u1,u2,u3,u4,-⟩:=box5 ZE;clear C FIN hk h5 K5 KS5 Z5 L5 S5 ZE;go_wp2;exact bodyPost_ret (v:=exV left ao cap) (by simp[results,Tryz.results31,go_sem,u0,u1,u2,u3,u4,exV]) rfl ⟨_,_,_,_,rfl,SE,RE,KE,HF.out⟩
  ·obtain ⟨i,k,hi,hk,hil,hzk,hzr,hz4,hxt⟩:=op_some (r:=r) HR.out hz;obtain ⟨z1,z2,z3,z4,z5⟩:=z;simp only at hzk hzr hz4;subst hzk hzr;have CE:=C.eat (H:=fun t=>(rec (row+1) o q t).bind fun right t2=>if row<z4 then .ok ⟨(z2:Nat),0,[],x.a,(one left).snoc right⟩ t2 else chainL rec g' row o q ⟨(z2:Nat),0,[],x.a,(one left).snoc right⟩ t2) (by simp only[chainL,hz])
   rw[hi];have HK:Hid ((sgK row)[i]?=some z2):=hk;have H4:Hid (row<z4 ↔ row=4):=hz4;obtain ⟨i2,g,cap3,L,hg,hi2,hcL,hcap,hL,hm,d0,d1,-,-,d4,⟨-,-,-,t3⟩,hf⟩:=h5.ok;have hiI:(i2:Int)<(L:Int):=by omega
   have hi9:i<4:=by have:=(sg_ok HR.out).2;omega
   have hin:i<n:=by rw[HN.out];exact hil
   have hinI:(i:Int)<(n:Int):=by omega
   have hn4:n<=4:=by have:=(sg_ok HR.out).2;have:=HN.out;omega
   clear C hz hi hk hz4 hil;go_wp2_with fail
   go_quiet (fail)
   have b6:Below wr.heap.size wr (wr.drewN nq):=bdr (Below.refl _ _) nq;have k6:=Keep.ofBelow (rb:=rb) b6;have h6:=h5.below b6;generalize wr.drewN nq=w6 at *;have Z6:=k6.blk Z5 (by omega)
   have L6:=k6.blk L5 (by omega)
   have S6:=S5.keepB k6 (by omega)
   have K6:=K5.trans k6;have KS6:=KS5.trans k6;clear b6 k6 h5 Z5 L5 S5 K5 KS5 d0 d1 d4 t3 hf hm;obtain ⟨i3,g3,cap4,L4,hg3,hi3,hcL3,hcap3,hL3,hm3,-,d1,-,-,-,-,hf⟩:=h6.ok;have h7:=h6.over (.inl hxt) d1;have k7:=Keep.at (rb:=rb) w6 1 (.int .i64 ((i3:Int)+1));go_upto_region 13 with fail;generalize w6.setCell ⟨rb,1,none⟩ (.int .i64 ((i3:Int)+1))=w7 at *;have Z7:=k7.blk Z6 (by omega)
   have L7:=k7.blk L6 (by omega)
   have S7:=S6.keepB k7 (by omega)
   have K7:=K6.trans k7;have KS7:=KS6.trans k7;clear k7 h6 Z6 L6 S6 K6 KS6 d1 hf hm3;have c8:=R w7 rb all (row+1) o q _ TI r8.1 r8.2 h7 CE.nou;rw[show ((row+1:Nat):Int)=(row:Int)+1 by omega] at c8
   have hz7:bl<w7.heap.size:=lt_of_block L7;go_wp2_with fail;refine c8.mono ?_;rintro e w8 ⟨x8,ao8,cap8,st8,rfl,S8,h8,k8,Q8⟩;have C8:=CE.step Q8;have S8b:=S8.toB (n:=w.heap.size+1) (bl:=bl) (by omega) hz7
   have Z8:=k8.blk Z7 (by omega)
   have L8:=k8.blk L7 (by omega)
   have S8a:=S7.keepB k8 (by omega)
   have K8:=K7.trans k8;have KS8:=KS7.trans k8;have hz8:bl<w8.heap.size:=lt_of_block L8;clear c8 Q8 CE S8 k8 h7 Z7 L7 S7 K7 KS7 hz7;have h9:=h8.alloc (bxE x8 ao8 cap8);have K9:=K8.alloc (bxE x8 ao8 cap8);have KS9:=KS8.alloc (bxE x8 ao8 cap8);have Z9:=(Below.heap_alloc w8 (bxE x8 ao8 cap8) _ (lt_of_block Z8)).trans Z8;have L9:=(Below.heap_alloc w8 (bxE x8 ao8 cap8) _ (lt_of_block L8)).trans L8;have Y9:(w8.alloc (bxE x8 ao8 cap8)).heap[w8.heap.size]?=some (bxE x8 ao8 cap8):=heap_alloc_new w8 _;have S9a:=S8a.allocB (bxE x8 ao8 cap8);have S9b:=S8b.allocB (bxE x8 ao8 cap8);rw[exV_out];go_upto_region 14 with fail;generalize w8.alloc (bxE x8 ao8 cap8)=w9 at *;generalize w8.heap.size=bb at *;have ck:=(KS9.cell SG.out.2.1 (by have:=SG.out.2.2.2.1;omega) i).trans (SG.out.2.2.2.2.2 i z2 HK.out)
   obtain ⟨v0,v1,v2,v3,v4,vf⟩:=box5 L9;obtain ⟨y0,y1,y2,y3,y4,yf⟩:=box5 Y9;have hbl9:bl<w9.heap.size:=lt_of_block L9;have c10:=fun (wx:World) (hx:wx.heap=w9.heap)=>two_s (w:=wx) (P:=Nb (w.heap.size+1) bl) z2 (x.a:Nat) (a:=left) (b:=x8) (aoa:=ao) (aob:=ao8) (ca:=cap) (cb:=cap8) (S9a.mono (fun j _ _=>by rw[hx]) (by rw[hx];exact Nat.le_refl _) (fun _ h _=>h)) (S9b.mono (fun j _ _=>by rw[hx]) (by rw[hx];exact Nat.le_refl _) (fun _ h _=>h)) (by rw[hx];exact ⟨by omega,by omega⟩)
   unfold exV at c10;have HC10:=Lib.hid c10;clear c10 S8a S8b h8 K8 KS8 Z8 L8;have hbd:bl<w9.drew.heap.size:=hbl9;have L9d:w9.drew.heap[bl]?=some (bxE left ao cap):=L9
   go_cut [75] (fun v wx=>∃ao10 cap10,wx.heap[bl]?=some (.cells #[.int .i64 (z2:Nat),.int .i64 0,stv [],.slice ao10 ((one left).snoc x8).len cap10,.int .i64 (x.a:Nat)] 25 (0,0))/\Sl wx (Nb (w.heap.size+1) bl) ((one left).snoc x8) ao10/\QS wx rb all o q st8/\Keep rb w wx/\Keep rb w1 wx/\wx.heap[w.heap.size]?=some (.cells #[.int .i64 0,.int .i64 0,.string ⟨#[]⟩,.slice none 0 0,.int .i64 0] 25 (0,0)))
   case first =>
    have HH:Hid (∀ w10 ao10 cap10,Sl w10 (Nb (w.heap.size+1) bl) ((one left).snoc x8) ao10->Below w9.drew.heap.size w9.drew w10->∃ao11 cap11,(((((w10.setCell ⟨bl,0,none⟩ (.int .i64 (z2:Nat))).setCell ⟨bl,1,none⟩ (.int .i64 0)).setCell ⟨bl,2,none⟩ (stv [])).setCell ⟨bl,3,none⟩ (.slice ao10 ((one left).snoc x8).len cap10)).setCell ⟨bl,4,none⟩ (.int .i64 (x.a:Nat))).heap[bl]?=some (.cells #[.int .i64 (z2:Nat),.int .i64 0,stv [],.slice ao11 ((one left).snoc x8).len cap11,.int .i64 (x.a:Nat)] 25 (0,0))/\Sl (((((w10.setCell ⟨bl,0,none⟩ (.int .i64 (z2:Nat))).setCell ⟨bl,1,none⟩ (.int .i64 0)).setCell ⟨bl,2,none⟩ (stv [])).setCell ⟨bl,3,none⟩ (.slice ao10 ((one left).snoc x8).len cap10)).setCell ⟨bl,4,none⟩ (.int .i64 (x.a:Nat))) (Nb (w.heap.size+1) bl) ((one left).snoc x8) ao11/\QS (((((w10.setCell ⟨bl,0,none⟩ (.int .i64 (z2:Nat))).setCell ⟨bl,1,none⟩ (.int .i64 0)).setCell ⟨bl,2,none⟩ (stv [])).setCell ⟨bl,3,none⟩ (.slice ao10 ((one left).snoc x8).len cap10)).setCell ⟨bl,4,none⟩ (.int .i64 (x.a:Nat))) rb all o q st8/\Keep rb w (((((w10.setCell ⟨bl,0,none⟩ (.int .i64 (z2:Nat))).setCell ⟨bl,1,none⟩ (.int .i64 0)).setCell ⟨bl,2,none⟩ (stv [])).setCell ⟨bl,3,none⟩ (.slice ao10 ((one left).snoc x8).len cap10)).setCell ⟨bl,4,none⟩ (.int .i64 (x.a:Nat)))/\Keep rb w1 (((((w10.setCell ⟨bl,0,none⟩ (.int .i64 (z2:Nat))).setCell ⟨bl,1,none⟩ (.int .i64 0)).setCell ⟨bl,2,none⟩ (stv [])).setCell ⟨bl,3,none⟩ (.slice ao10 ((one left).snoc x8).len cap10)).setCell ⟨bl,4,none⟩ (.int .i64 (x.a:Nat)))/\(((((w10.setCell ⟨bl,0,none⟩ (.int .i64 (z2:Nat))).setCell ⟨bl,1,none⟩ (.int .i64 0)).setCell ⟨bl,2,none⟩ (stv [])).setCell ⟨bl,3,none⟩ (.slice ao10 ((one left).snoc x8).len cap10)).setCell ⟨bl,4,none⟩ (.int .i64 (x.a:Nat))).heap[w.heap.size]?=some (.cells #[.int .i64 0,.int .i64 0,.string ⟨#[]⟩,.slice none 0 0,.int .i64 0] 25 (0,0))):=fun w10 ao10 cap10 S10 b10=>by
     have k10:Keep rb w9 w10:=(Keep.refl rb w9).drew.trans (Keep.ofBelow b10);have hq:=(h9.below (Below.refl _ _).drew).below b10;have hl:=(k10.blk L9 (by omega))
     have hzz:=(k10.blk Z9 (by omega))
     exact ⟨ao10,cap10,set5k (.int .i64 (z2:Nat)) (.int .i64 0) (stv []) (.slice ao10 ((one left).snoc x8).len cap10) (.int .i64 (x.a:Nat)) hl,S10.set5B (b:=bl) (.inl rfl) (.int .i64 (z2:Nat)) (.int .i64 0) (stv []) (.slice ao10 ((one left).snoc x8).len cap10) (.int .i64 (x.a:Nat)),hq.set5 (b:=bl) (by omega) (.int .i64 (z2:Nat)) (.int .i64 0) (stv []) (.slice ao10 ((one left).snoc x8).len cap10) (.int .i64 (x.a:Nat)),(K9.trans k10).set5 (b:=bl) (by omega) (.int .i64 (z2:Nat)) (.int .i64 0) (stv []) (.slice ao10 ((one left).snoc x8).len cap10) (.int .i64 (x.a:Nat)),(KS9.trans k10).set5 (b:=bl) hw1 (.int .i64 (z2:Nat)) (.int .i64 0) (stv []) (.slice ao10 ((one left).snoc x8).len cap10) (.int .i64 (x.a:Nat)),(blk5 (by omega) (.int .i64 (z2:Nat)) (.int .i64 0) (stv []) (.slice ao10 ((one left).snoc x8).len cap10) (.int .i64 (x.a:Nat))).trans hzz⟩
    clear h9 K9 KS9 Z9 L9 Y9 S9a S9b
    go_region_with ((go_at_call 61;refine (HC10.out w9.drew rfl).mono ?_;rintro e w10 ⟨ao10,cap10,rfl,S10,b10⟩;have L10:=(b10.block bl hbd).trans L9d;have FX:=HH.out _ _ cap10 S10 b10;obtain ⟨q0,q1,q2,q3,q4,qf⟩:=box5 L10))
    all_goals
     go_wp2;go_meet;exact FX
   case rest =>
   obtain ⟨ao10,cap10,L11,S11,h11,K11,KS11,Z11⟩:=hcut;clear h9 K9 KS9 Z9 L9 Y9 S9a S9b HC10 ck v0 v1 v2 v3 v4 vf y0 y1 y2 y3 y4 yf hbd L9d hbl9 hz8;have hg1:g1<wc.heap.size:=by have:=SG.out.1;have:=KS11.size;omega
   have c12:=among_s TI (sgW row) (sg_ok HR.out).1 h11 HN.out hg1 (fun j s hj=>(KS11.cell SG.out.1 (by have:=SG.out.2.2.1;omega) j).trans (SG.out.2.2.2.2.1 j s hj)) (Nat.le_refl n) (by unfold maxLen;omega)
   go_wp2_with fail;refine c12.mono ?_;rintro e w13 ⟨rfl,b13⟩;have k13:=Keep.ofBelow (rb:=rb) b13;have h13:=h11.below b13;have Z13:=k13.blk Z11 (by omega)
   have L13:=k13.blk L11 (by omega)
   have S13:=S11.keepB k13 (by omega)
   have K13:=K11.trans k13;have KS13:=KS11.trans k13;clear c12 b13 k13 h11 Z11 L11 S11 K11 KS11 hg1;by_cases h4:row=4
   ·have C9:=(C8.congr (H:=fun t2=>.ok ⟨(z2:Nat),0,[],x.a,(one left).snoc x8⟩ t2) (fun t _=>if_pos (H4.out.2 h4))).fin
    have HF:Hid (Qd F (.inr ts) ⟨(z2:Nat),0,[],x.a,(one left).snoc x8⟩ st8):=C9;have hr4:((row:Int)==4)=true:=by rw[h4];rfl
    have KE:=K13.set5 (b:=w.heap.size) (by omega) (.int .i64 (z2:Nat)) (.int .i64 0) (stv []) (.slice ao10 ((one left).snoc x8).len cap10) (.int .i64 (x.a:Nat))
    have RE:=h13.set5 (b:=w.heap.size) (by omega) (.int .i64 (z2:Nat)) (.int .i64 0) (stv []) (.slice ao10 ((one left).snoc x8).len cap10) (.int .i64 (x.a:Nat))
    have ZE:=set5k (.int .i64 (z2:Nat)) (.int .i64 0) (stv []) (.slice ao10 ((one left).snoc x8).len cap10) (.int .i64 (x.a:Nat)) Z13;have SE:Sl _ (Nw w.heap.size) _ _:=(S13.set5B (b:=w.heap.size) (.inr (by omega)) (.int .i64 (z2:Nat)) (.int .i64 0) (stv []) (.slice ao10 ((one left).snoc x8).len cap10) (.int .i64 (x.a:Nat))).lowB (by omega)
    obtain ⟨z0,z1,z2',z3',z4',zf⟩:=box5 Z13;obtain ⟨v0,v1,v2,v3,v4,vf⟩:=box5 L13;obtain ⟨u0,u1,u2,u3,u4,-⟩:=box5 ZE;clear C8 C9 h4 h13 K13 KS13 Z13 L13 S13 ZE;go_wp2;exact bodyPost_ret (v:=exV ⟨(z2:Nat),0,[],x.a,(one left).snoc x8⟩ ao10 cap10) (by simp[results,Tryz.results31,go_sem,u0,u1,u2,u3,u4,exV]) rfl ⟨_,_,_,_,rfl,SE,RE,KE,HF.out⟩
   ·have C9:=C8.congr (H:=fun t2=>chainL rec g' row o q ⟨(z2:Nat),0,[],x.a,(one left).snoc x8⟩ t2) (fun t _=>if_neg (fun e=>h4 (H4.out.1 e)))
    have hr4:((row:Int)==4)=false:=by simp;omega
    clear C8 h4;go_wp2
    go_roundg g'
    case rel=>(try ((repeat apply Exists.intro);refine ⟨?_,rfl⟩));exact ⟨st8,⟨(z2:Nat),0,[],x.a,(one left).snoc x8⟩,ao10,cap10,rfl,C9,L13,S13,h13,K13,KS13,Z13⟩
    all_goals omega
theorem Rs.bind_assoc {α β γ:Type}(r:Rs α)(f:α->List Tk->Rs β)(g:β->List Tk->Rs γ):(r.bind f).bind g=r.bind fun x t=>(f x t).bind g:=by
 cases r using Rs.on with
 | out=>rfl
 | bad e a=>rfl
 | ok x t=>rfl
def callR (rec:Rdr)(many n a o q:Nat)(ts:List Tk):Rs Ex:=(argsR rec many o q ts.tail).bind fun ks t1=>.ok ⟨20,(n:Int)+1,[],(a:Nat),ks⟩ t1
theorem Rq.same {w w2:World}{rb i:Nat}{o q:Int}{er pl:Nat}{all:List Tk}(h:Rq w rb i o q er pl all)(hb:∀ k,k<=rb->w2.heap[k]?=w.heap[k]?):Rq w2 rb i o q er pl all:=by
 obtain ⟨g,cap,h1,h2,h4,h5⟩:=h;exact ⟨g,cap,(hb rb (Nat.le_refl _)).trans h1,h2,fun j u hu=>(World.cell?_of_block (a:=⟨g,j,none⟩) (hb g (by omega))).trans (h4 j u hu),h5⟩
theorem QS.same {w w2:World}{rb o q:Nat}{all:List Tk}{st:Sq}(h:QS w rb all o q st)(hb:∀ k,k<=rb->w2.heap[k]?=w.heap[k]?):QS w2 rb all o q st:=by
 match st,h with
 | .inl (er,a),⟨i,o',q',h1,h2⟩=>exact ⟨i,o',q',h1.same hb,h2⟩
 | .inr ts,⟨i,pl,h1,h2⟩=>exact ⟨i,pl,h1.same hb,h2⟩
theorem QS.step1 {w w2:World}{o2:Nat->Nat}{rb g o q:Nat}{all:List Tk}{st:Sq}(h:QS w rb all o q st)(s:Step (fun x=>x=1) w (lab1 g) w2 o2)(hg:rb<g):QS w2 rb all o q st:=h.same fun k hk=>s.block k (by have:=h.lt;omega) (by unfold lab1;rw[if_neg (by omega)];decide)
theorem Rs.ok_bind {α β:Type}(x:α)(t:List Tk)(f:α->List Tk->Rs β):(Rs.ok x t).bind f=f x t:=rfl
theorem call1_q {rec:Rdr}(R:RecQ rec){w:World}{rb o q n:Nat}{all:List Tk}{x:Tk}{r:List Tk}(TI:∀ x,x ∈ all->TokI x)(hxt:x.t≠[])(hn9:3<=n/\n<10)(h:QS w rb all o q (.inr (x::r)))(hn:Nou (callR rec 1 n x.a o q) (.inr (x::r))) :
  Calls Tryz.prog 138 #[.pointer (some ⟨rb,0,none⟩),.int .i64 (n:Nat),.int .i64 (x.a:Nat)] w (PostQ rb all o q w (.inr (x::r)) (callR rec 1 n x.a o q)):=by
 have hrb:=h.lt;have K0:Keep rb w (w.alloc exZ):=(Keep.refl rb w).alloc _;have Z0:(w.alloc exZ).heap[w.heap.size]?=some exZ:=heap_alloc_new w _;have h0:=h.alloc exZ;have C0:=Ctx.start hn;have C1:=C0.eat (H:=(fun ts=>(enterT [40] o ts).bind fun _ t1=>(rec 1 (o+1) q t1).bind fun e t2=>(passT [41] t2).bind fun _ t4=>.ok ⟨20,(n:Int)+1,[],(x.a:Nat),one e⟩ t4)) (by simp only[callR,List.tail_cons,argsR,argsL,Rs.bind_assoc,Rs.ok_bind,Nat.sub_self,Nat.reduceSub])
 have hs1:w.heap.size<(w.alloc exZ).heap.size:=by simp
 have hnI:¬(n:Int)<3:=by omega
 obtain ⟨ii,hii,hzi0,hzi1,hzi2⟩:=info_parts infoExpr;obtain ⟨i,g,cap,L,hg,hi,hcL,hcap,hL,hm,-,d1,-,-,-,-,hf⟩:=h0.ok;have h1:=h0.over (.inl hxt) d1;have k1:=Keep.at (rb:=rb) (w.alloc exZ) 1 (.int .i64 ((i:Int)+1));clear C0 hn h0 hm;go_enter Tryz.func138,Tryz.ntmps138;go_upto_region 1 with fail;generalize w.alloc exZ=v0 at *;go_upto_region 2 with fail;generalize v0.setCell ⟨rb,1,none⟩ (.int .i64 ((i:Int)+1))=w1 at *;clear d1 hf;have Z1:=k1.blk Z0 (by have:=K0.size;omega)
 have K1:=K0.trans k1;clear K0 Z0;have c2:=bracket_v TI [40] ⟨by decide,by decide⟩ h1
 go_wp2_with fail;refine c2.mono ?_;rintro e w2 ⟨x2,st2,rfl,h2,k2,Q2⟩;have C2:=C1.step Q2;clear c2 Q2 C1;have Z2:=k2.blk Z1 (by have:=K1.size;omega)
 have K2:=K1.trans k2;clear K1 Z1;have c3:=R _ rb all 1 (o+1) (q) st2 TI (by omega) (by omega) h2 C2.nou
 go_wp2_with fail;refine c3.mono ?_;rintro e w3 ⟨x3,ao3,cap3,st3,rfl,S3,h3,k3,Q3⟩;have C3:=C2.step Q3;clear c3 Q3 C2;have S3a:=S3.low (show (w.heap.size+1)<=_ from (by have:=lt_of_block Z2;omega))
 clear S3;have Z3:=k3.blk Z2 (by have:=K2.size;omega)
 have K3:=K2.trans k3;clear K2 Z2;have A3_a:=Acc.one cap3 S3a (by have:=lt_of_block Z3;omega)
 have h3a:=h3.alloc (.cells #[.int .i64 x3.k,.int .i64 x3.n,stv x3.nm,.slice ao3 x3.kids.len cap3,.int .i64 x3.a] 25);have K3a:=K3.alloc (.cells #[.int .i64 x3.k,.int .i64 x3.n,stv x3.nm,.slice ao3 x3.kids.len cap3,.int .i64 x3.a] 25);have Z3a:=(Below.heap_alloc w3 (.cells #[.int .i64 x3.k,.int .i64 x3.n,stv x3.nm,.slice ao3 x3.kids.len cap3,.int .i64 x3.a] 25) _ (lt_of_block Z3)).trans Z3;clear h3 K3 Z3 S3a;rw[exV_out];have c4:=close_v TI [41] ⟨by decide,by decide⟩ h3a
 go_wp2_with fail;refine c4.mono ?_;rintro e w4 ⟨x4,st4,rfl,h4,k4,Q4⟩;have C4:=C3.step Q4;clear c4 Q4 C3;have Z4:=k4.blk Z3a (by have:=K3a.size;omega)
 have K4:=K3a.trans k4;have A3_4:=A3_a.keep k4 (by omega)
 clear K3a Z3a A3_a;obtain ⟨aoF,capF,hvF,SF⟩:=A3_4.sl;simp only[Value.slice.injEq] at hvF;obtain ⟨rfl,-,rfl⟩:=hvF;have KE:=K4.set5 (b:=w.heap.size) (by omega) (.int .i64 20) (.int .i64 ((n:Int)+1)) (stv []) (.slice (some ⟨w3.heap.size,0,none⟩) 1 1) (.int .i64 x.a)
 have RE:=h4.set5 (b:=w.heap.size) (by omega) (.int .i64 20) (.int .i64 ((n:Int)+1)) (stv []) (.slice (some ⟨w3.heap.size,0,none⟩) 1 1) (.int .i64 x.a)
 have ZE:=set5k (.int .i64 20) (.int .i64 ((n:Int)+1)) (stv []) (.slice (some ⟨w3.heap.size,0,none⟩) 1 1) (.int .i64 x.a) Z4;have SE:Sl _ (Nw w.heap.size) _ _:=(SF.set5 (b:=w.heap.size) (by omega) (.int .i64 20) (.int .i64 ((n:Int)+1)) (stv []) (.slice (some ⟨w3.heap.size,0,none⟩) 1 1) (.int .i64 x.a)).low (by omega)
 obtain ⟨z0,z1,z2,z3,z4,zf⟩:=box5 Z4;obtain ⟨u0,u1,u2,u3,u4,-⟩:=box5 ZE;have FIN:=C4.fin;clear ZE SF K4 Z4 h4 A3_4;go_wp2;exact bodyPost_ret (v:=exV ⟨20,((n:Int)+1),[],x.a,(one x3)⟩ (some ⟨w3.heap.size,0,none⟩) 1) (by simp[results,Tryz.results138,go_sem,u0,u1,u2,u3,u4,exV];try rfl) rfl ⟨_,_,_,_,rfl,SE,RE,KE,FIN⟩
theorem call2_q {rec:Rdr}(R:RecQ rec){w:World}{rb o q n:Nat}{all:List Tk}{x:Tk}{r:List Tk}(TI:∀ x,x ∈ all->TokI x)(hxt:x.t≠[])(hn9:n<3)(h:QS w rb all o q (.inr (x::r)))(hn:Nou (callR rec 2 n x.a o q) (.inr (x::r))) :
  Calls Tryz.prog 138 #[.pointer (some ⟨rb,0,none⟩),.int .i64 (n:Nat),.int .i64 (x.a:Nat)] w (PostQ rb all o q w (.inr (x::r)) (callR rec 2 n x.a o q)):=by
 have hrb:=h.lt;have K0:Keep rb w (w.alloc exZ):=(Keep.refl rb w).alloc _;have Z0:(w.alloc exZ).heap[w.heap.size]?=some exZ:=heap_alloc_new w _;have h0:=h.alloc exZ;have C0:=Ctx.start hn;have C1:=C0.eat (H:=(fun ts=>(enterT [40] o ts).bind fun _ t1=>(rec 1 (o+1) q t1).bind fun e t2=>(passT [44] t2).bind fun _ t2b=>(rec 1 (o+1) q t2b).bind fun e2 t2c=>(passT [41] t2c).bind fun _ t4=>.ok ⟨20,(n:Int)+1,[],(x.a:Nat),(one e).snoc e2⟩ t4)) (by simp only[callR,List.tail_cons,argsR,argsL,Rs.bind_assoc,Rs.ok_bind,Nat.sub_self,Nat.reduceSub])
 have hs1:w.heap.size<(w.alloc exZ).heap.size:=by simp
 have hnI:(n:Int)<3:=by omega
 obtain ⟨ii,hii,hzi0,hzi1,hzi2⟩:=info_parts infoExpr;obtain ⟨i,g,cap,L,hg,hi,hcL,hcap,hL,hm,-,d1,-,-,-,-,hf⟩:=h0.ok;have h1:=h0.over (.inl hxt) d1;have k1:=Keep.at (rb:=rb) (w.alloc exZ) 1 (.int .i64 ((i:Int)+1));clear C0 hn h0 hm;go_enter Tryz.func138,Tryz.ntmps138;go_upto_region 1 with fail;generalize w.alloc exZ=v0 at *;go_upto_region 2 with fail;generalize v0.setCell ⟨rb,1,none⟩ (.int .i64 ((i:Int)+1))=w1 at *;clear d1 hf;have Z1:=k1.blk Z0 (by have:=K0.size;omega)
 have K1:=K0.trans k1;clear K0 Z0;have c2:=bracket_v TI [40] ⟨by decide,by decide⟩ h1
 go_wp2_with fail;refine c2.mono ?_;rintro e w2 ⟨x2,st2,rfl,h2,k2,Q2⟩;have C2:=C1.step Q2;clear c2 Q2 C1;have Z2:=k2.blk Z1 (by have:=K1.size;omega)
 have K2:=K1.trans k2;clear K1 Z1;have c3:=R _ rb all 1 (o+1) (q) st2 TI (by omega) (by omega) h2 C2.nou
 go_wp2_with fail;refine c3.mono ?_;rintro e w3 ⟨x3,ao3,cap3,st3,rfl,S3,h3,k3,Q3⟩;have C3:=C2.step Q3;clear c3 Q3 C2;have S3a:=S3.low (show (w.heap.size+1)<=_ from (by have:=lt_of_block Z2;omega))
 clear S3;have Z3:=k3.blk Z2 (by have:=K2.size;omega)
 have K3:=K2.trans k3;clear K2 Z2;have A3_a:=Acc.one cap3 S3a (by have:=lt_of_block Z3;omega)
 have h3a:=h3.alloc (.cells #[.int .i64 x3.k,.int .i64 x3.n,stv x3.nm,.slice ao3 x3.kids.len cap3,.int .i64 x3.a] 25);have K3a:=K3.alloc (.cells #[.int .i64 x3.k,.int .i64 x3.n,stv x3.nm,.slice ao3 x3.kids.len cap3,.int .i64 x3.a] 25);have Z3a:=(Below.heap_alloc w3 (.cells #[.int .i64 x3.k,.int .i64 x3.n,stv x3.nm,.slice ao3 x3.kids.len cap3,.int .i64 x3.a] 25) _ (lt_of_block Z3)).trans Z3;clear h3 K3 Z3 S3a;rw[exV_out];have c4:=take_v TI [44] ⟨by decide,by decide⟩ h3a
 go_wp2_with fail;refine c4.mono ?_;rintro e w4 ⟨x4,st4,rfl,h4,k4,Q4⟩;have C4:=C3.step Q4;clear c4 Q4 C3;have Z4:=k4.blk Z3a (by have:=K3a.size;omega)
 have K4:=K3a.trans k4;have A3_4:=A3_a.keep k4 (by omega)
 clear K3a Z3a A3_a;have c5:=R _ rb all 1 (o+1) (q) st4 TI (by omega) (by omega) h4 C4.nou
 go_wp2_with fail;refine c5.mono ?_;have hw5:w3.heap.size<w4.heap.size:=by obtain ⟨g9,c9,x9,hv9,B9⟩:=A3_4;simp only[Value.slice.injEq,Option.some.injEq,Addr.mk.injEq,true_and,and_true] at hv9;obtain ⟨e9,-,-⟩:=hv9;subst e9;exact B9.row.lt rfl
 rintro e w5 ⟨x5,ao5,cap5,st5,rfl,SN0,h5,k5,Q5⟩;have C5:=C4.step Q5;clear c5 Q5 C4;have SN:=SN0;have S5a:=SN0.low (show (w.heap.size+1)<=_ from (by have:=lt_of_block Z4;omega))
 clear SN0;have Z5:=k5.blk Z4 (by have:=K4.size;omega)
 have K5:=K4.trans k5;have A3_5:=A3_4.keep k5 (by omega)
 clear K4 Z4 A3_4;obtain ⟨gA,capA,xs,hvA,AG⟩:=A3_5;simp only[Value.slice.injEq,Option.some.injEq,Addr.mk.injEq,true_and,and_true] at hvA;obtain ⟨hgA,-,rfl⟩:=hvA;subst hgA;have AG8:AccG (World.alloc w5 (.cells #[.int .i64 x5.k,.int .i64 x5.n,stv x5.nm,.slice ao5 x5.kids.len cap5,.int .i64 x5.a] 25)) (w.heap.size+1) (one x3) w3.heap.size 1 xs:=⟨AG.1,(AG.row.step (allocStep (fun _=>False) w5 (lab1 w3.heap.size) _) id).1,AG.2.2.mono (fun i hp hl=>Below.heap_alloc w5 _ i hl) (by simp) (fun _ h _=>h)⟩
 have S8:=SN.allocN (.cells #[.int .i64 x5.k,.int .i64 x5.n,stv x5.nm,.slice ao5 x5.kids.len cap5,.int .i64 x5.a] 25);have h8:=h5.alloc (.cells #[.int .i64 x5.k,.int .i64 x5.n,stv x5.nm,.slice ao5 x5.kids.len cap5,.int .i64 x5.a] 25);have K8:=K5.alloc (.cells #[.int .i64 x5.k,.int .i64 x5.n,stv x5.nm,.slice ao5 x5.kids.len cap5,.int .i64 x5.a] 25);have Z8:=(Below.heap_alloc w5 (.cells #[.int .i64 x5.k,.int .i64 x5.n,stv x5.nm,.slice ao5 x5.kids.len cap5,.int .i64 x5.a] 25) _ (lt_of_block Z5)).trans Z5;have hone:∀ u ∈ [Value.int .i64 x5.k,.int .i64 x5.n,stv x5.nm,.slice ao5 x5.kids.len cap5,.int .i64 x5.a],u.oneCell'=true:=by intro u hu;simp at hu;rcases hu with rfl|rfl|rfl|rfl|rfl <;> rfl
 have b1:1+1<=maxLen:=by unfold maxLen;omega
 have b2:(1+1)*64<=140737488355328:=by omega
 have l1:(one x3).len=1:=rfl;have AR:=AG8.row;rw[l1] at AR;clear l1;clear AG h5 K5 Z5 S5a SN;rw[exV_out];go_wp2_with (first|(at_builtin;refine wpList_append_lab rfl (.tmp 24) (.tmp 27) 23 rfl 25 ii _ 5 64 Tryz.underlying23 hii hzi0 hzi1 hzi2 rfl (by decide) (lab1 w3.heap.size) 1 _ 1 xs rfl AR ⟨w5.heap.size,0,none⟩ 1 1 [.int .i64 x5.k,.int .i64 x5.n,stv x5.nm,.slice ao5 x5.kids.len cap5,.int .i64 x5.a] rfl rfl (new_cells_at w5 _ _) hone (by decide) b1 b2 ?_)|go_in)
 intro g8 c8 w8 o8 r8 s8;have A8:=Acc.push AG8 S8 hw5 (by have:=lt_of_block Z8;omega) s8 r8
 have hgr:w.heap.size+1<=w3.heap.size:=AG8.1;have h9:=h8.step1 s8 (by omega)
 have K9:=K8.step1 s8 (by omega)
 have Z9:=(s8.block w.heap.size (lt_of_block Z8) (by unfold lab1;rw[if_neg (by omega)];decide)).trans Z8
 clear AG8 AR S8 h8 K8 Z8 r8 s8 hone b1 b2 hii hzi0 hzi1 hzi2 ii hw5 hgr xs;have c11:=close_v TI [41] ⟨by decide,by decide⟩ h9
 go_wp2_with fail;refine c11.mono ?_;rintro e w11 ⟨x11,st11,rfl,h11,k11,Q11⟩;have C11:=C5.step Q11;clear c11 Q11 C5;have Z11:=k11.blk Z9 (by have:=K9.size;omega)
 have K11:=K9.trans k11;have A8_11:=A8.keep k11 (by omega)
 clear K9 Z9 A8;obtain ⟨aoF,capF,hvF,SF⟩:=A8_11.sl;simp only[Value.slice.injEq] at hvF;obtain ⟨rfl,-,rfl⟩:=hvF;have KE:=K11.set5 (b:=w.heap.size) (by omega) (.int .i64 20) (.int .i64 ((n:Int)+1)) (stv []) (.slice (some ⟨g8,0,none⟩) 2 c8) (.int .i64 x.a)
 have RE:=h11.set5 (b:=w.heap.size) (by omega) (.int .i64 20) (.int .i64 ((n:Int)+1)) (stv []) (.slice (some ⟨g8,0,none⟩) 2 c8) (.int .i64 x.a)
 have ZE:=set5k (.int .i64 20) (.int .i64 ((n:Int)+1)) (stv []) (.slice (some ⟨g8,0,none⟩) 2 c8) (.int .i64 x.a) Z11;have SE:Sl _ (Nw w.heap.size) _ _:=(SF.set5 (b:=w.heap.size) (by omega) (.int .i64 20) (.int .i64 ((n:Int)+1)) (stv []) (.slice (some ⟨g8,0,none⟩) 2 c8) (.int .i64 x.a)).low (by omega)
 obtain ⟨z0,z1,z2,z3,z4,zf⟩:=box5 Z11;obtain ⟨u0,u1,u2,u3,u4,-⟩:=box5 ZE;have FIN:=C11.fin;clear ZE SF K11 Z11 h11 A8_11;go_wp2;exact bodyPost_ret (v:=exV ⟨20,((n:Int)+1),[],x.a,((one x3).snoc x5)⟩ (some ⟨g8,0,none⟩) c8) (by simp[results,Tryz.results138,go_sem,u0,u1,u2,u3,u4,exV];try rfl) rfl ⟨_,_,_,_,rfl,SE,RE,KE,FIN⟩
end Go.Proofs.YtaihhnlfcndecaaGreatDoor
